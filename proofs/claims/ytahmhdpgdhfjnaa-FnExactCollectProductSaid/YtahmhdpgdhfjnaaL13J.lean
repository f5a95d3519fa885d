/- Collection: what the functions return; the model's tops. -/
import Derived.Test.YtahmhdpgdhfjnaaL13C
import Derived.Test.YtahmhdpgdhfjnaaL13H
import Derived.Test.YtahmhdpgdhfjnaaL11L
namespace Go.Proofs.Ytahmhdpgdhfjnaa
open Go.RowKit
set_option linter.unusedVariables false
set_option linter.unusedSimpArgs false

/-- A valid presentation and a positive word of it. -/
def Pres.pos (p : Pres) (x : List Int) : Bool := p.ok && Num.posB p.O.length 64 x
def rIsNormalWord (p : Pres) (x : List Int) : Bool := p.pos x && decide (¬ Num.atW p.O x < x.length)
def rCollectStep (p : Pres) (x : List Int) : List Int := if p.pos x = true then (if Num.atW p.O x < x.length then Num.stpW p.O p.W p.J x (Num.atW p.O x) else x) else []
def nCollectStep (p : Pres) (x : List Int) : Int := if p.pos x = true then Num.stI p.O x else 0
def cCollectStep (p : Pres) (x : List Int) : Int := if p.pos x = true then 0 else 1
/-- What collection comes to, with the codes of a limit. -/
def Num.limB (L : Int) : Bool := decide (0 ≤ L ∧ L ≤ 2000)
def tCollectWord (p : Pres) (x : List Int) (L : Int) : Option (List Int × Nat) := Num.colW p.O p.W p.J L.toNat x
def rCollectWord (p : Pres) (x : List Int) (L : Int) : List Int := if p.pos x = true ∧ Num.limB L = true then Num.colR p.O.length (tCollectWord p x L) else []
def nCollectWord (p : Pres) (x : List Int) (L : Int) : Int := if p.pos x = true ∧ Num.limB L = true then Num.colS (tCollectWord p x L) else 0
def cCollectWord (p : Pres) (x : List Int) (L : Int) : Int := if p.pos x = false then 1 else if Num.limB L = false then 2 else Num.nfC (tCollectWord p x L)
/-- New memory, a number and a code. -/
def MadeNC (s : Sp (List Int)) (x : List Int) (n c : Int) (w : World) (e : Ending) (w' : World) : Prop := ∃ u S, e = .returned (.tuple #[u, .int .i64 n, .int .i64 c]) ∧ s.own w' S u x ∧ (∀ k, S k → w.heap.size ≤ k) ∧ s.cnt x ≤ 1000000000 ∧ Below w.heap.size w w'
theorem MadeNC.list {w w' : World} {u : Value} {xs : List Int} {n c : Int} (own : OwnI w' w.heap.size u xs) (hl : xs.length ≤ 1000000000) (hb : Below w.heap.size w w') : MadeNC spI xs n c w (.returned (.tuple #[u, .int .i64 n, .int .i64 c])) w' :=
  ⟨u, _, rfl, spI_of own, fun k hk => own.base_le k hk, hl, hb⟩
theorem Pres.pos_out {p : Pres} {x : List Int} (h : p.pos x = true) : p.ok = true ∧ x.length ≤ 64 ∧ Num.PosW p.O.length x := by
  unfold Pres.pos at h
  rw [Bool.and_eq_true] at h
  obtain ⟨h1, h2⟩ := Num.posB_out h.2
  exact ⟨h.1, by omega, h2⟩
set_option maxRecDepth 100000 in
set_option maxHeartbeats 2000000 in
theorem sIsNormalWord_ok (v0 : Value) (p : Pres) (v1 : Value) (x : List Int) (w : World) (h0 : spPres.rd w v0 p) (h1 : spI.rd w v1 x) (s0 : spPres.sz p ≤ 1048576) (s1 : spI.sz x ≤ 1048576) : Calls Try.prog 37 #[v0, v1] w (RetB (rIsNormalWord p x) w) := by
  obtain ⟨O, W, J⟩ := p
  have h0' := h0
  obtain ⟨A0, c0, A1, c1, A2, c2, rfl, ⟨hO, hW, hJ⟩, m0, -, -⟩ := pres_open h0
  replace hO : RdI w A0 O := hO
  replace hW : RdW w A1 W := hW
  replace hJ : RdX w A2 J := hJ
  simp only at h0' h0 m0 ⊢
  obtain ⟨B, d, rfl, hl, hx⟩ := h1
  have b0 : Below w.heap.size w (w.alloc (.cells #[.slice A0 O.length c0, .slice A1 W.length c1, .slice A2 J.length c2] 28)) := by go_grown
  have BX := (Blk.new w [.slice A0 O.length c0, .slice A1 W.length c1, .slice A2 J.length c2] 28)
  have HI := Lib.hid (sIsPres_any _ ⟨O, W, J⟩ _ (spPres.rd_below h0' b0))
  have HP : Hid (∀ W', Below w.heap.size w W' → Calls Try.prog 87 #[.int .i64 (O.length : Int), .slice B x.length d, .int .i64 64] W' fun e w' => e = .returned (.bool (Num.posB O.length 64 x)) ∧ W' = w') := Lib.hid fun W' hb => sPos_any O.length B d x 64 W' (hx.below' hb) hl
  have HA : Hid (∀ W', Below w.heap.size w W' → Pres.pos ⟨O, W, J⟩ x = true → Calls Try.prog 88 #[.agg #[.slice A0 O.length c0, .slice A1 W.length c1, .slice A2 J.length c2], .slice B x.length d] W' fun e w' => e = .returned (.int .i64 (Num.stI O x)) ∧ Below W'.heap.size W' w') := Lib.hid fun W' hb hp => by
    obtain ⟨k1, k2, k3⟩ := Pres.pos_out hp
    exact sAt_any A0 A1 A2 B c0 _ c1 _ c2 d O x W' (hO.below' hb) (hx.below' hb) (by omega) k3 (Num.V9.of k1).n6
  generalize hW0 : (w.alloc (.cells #[.slice A0 O.length c0, .slice A1 W.length c1, .slice A2 J.length c2] 28)) = W0 at *
  obtain ⟨bl, x0, x1, x2⟩ := BX.c3
  clear hO hW hJ h0 h0' hx
  cases hk : Pres.ok ⟨O, W, J⟩ with
  | true =>
    rw [hk] at HI
    cases hp : Num.posB O.length 64 x with
    | true =>
      rw [hp] at HP
      have hpos : Pres.pos ⟨O, W, J⟩ x = true := by unfold Pres.pos; rw [hk, Bool.true_and]; exact hp
      have HF : Hid (decide (Num.stI O x < 0) = rIsNormalWord ⟨O, W, J⟩ x) := Lib.hid (by
        unfold rIsNormalWord Num.stI
        rw [hpos, Bool.true_and]
        by_cases h : Num.atW O x < x.length
        · rw [if_pos h, decide_eq_false (by omega), decide_eq_false (by simpa using h)]
        · rw [if_neg h, decide_eq_true (by omega), decide_eq_true h])
      have HA2 := Lib.hid (fun W' hb => HA.out W' hb hpos)
      clear hk hp hpos HA
      generalize Num.stI O x = r at *
      go_enter Try.func37, Try.ntmps37
      go_wp2_with (fail)
      clear hW0
      refine HI.out.mono ?_; rintro e w1 ⟨rfl, hb1⟩
      have L1 := bstep b0 b0.size hb1
      obtain ⟨bl1, y0, y1, y2⟩ := (BX.below hb1).c3
      have HP1 := Lib.hid (HP.out w1 L1)
      have HA1 := Lib.hid (HA2.out w1 L1)
      clear HI HP HA2 x0 x1 x2
      go_wp2_with (fail)
      refine HP1.out.mono ?_; rintro e w2 ⟨rfl, rfl⟩
      go_wp2_with (fail)
      refine HA1.out.mono ?_; rintro e w2 ⟨rfl, hb2⟩
      have L2 := bstep L1 L1.size hb2
      go_wp2_with (fail)
      go_ret
      exact ⟨ret_b HF.out, L2⟩
    | false =>
      rw [hp] at HP
      have HF : Hid (rIsNormalWord ⟨O, W, J⟩ x = false) := Lib.hid (by
        unfold rIsNormalWord Pres.pos
        rw [show Num.posB (Pres.mk O W J).O.length 64 x = false from hp, Bool.and_false, Bool.false_and])
      clear hk hp HA
      go_enter Try.func37, Try.ntmps37
      go_wp2_with (fail)
      clear hW0
      refine HI.out.mono ?_; rintro e w1 ⟨rfl, hb1⟩
      have L1 := bstep b0 b0.size hb1
      obtain ⟨bl1, y0, y1, y2⟩ := (BX.below hb1).c3
      have HP1 := Lib.hid (HP.out w1 L1)
      clear HI HP x0 x1 x2
      go_wp2_with (fail)
      refine HP1.out.mono ?_; rintro e w2 ⟨rfl, rfl⟩
      go_wp2_with (fail)
      go_ret
      exact ⟨ret_b HF.out.symm, L1⟩
  | false =>
    rw [hk] at HI
    have HF : Hid (rIsNormalWord ⟨O, W, J⟩ x = false) := Lib.hid (by
      unfold rIsNormalWord Pres.pos
      rw [hk, Bool.false_and, Bool.false_and])
    clear hk HA HP
    go_enter Try.func37, Try.ntmps37
    go_wp2_with (fail)
    clear hW0
    refine HI.out.mono ?_; rintro e w1 ⟨rfl, hb1⟩
    go_wp2_with (fail)
    go_ret
    exact ⟨ret_b HF.out.symm, bstep b0 b0.size hb1⟩
def CapI (w : World) (v : Value) (x : List Int) : Prop := ∃ A c, v = .slice A x.length c ∧ x.length ≤ maxLen ∧ RdI w A x ∧ x.length ≤ c
theorem capI_of {w : World} {S : Nat → Prop} {v : Value} {x : List Int} (h : spI.own w S v x) : CapI w v x := by
  obtain ⟨A, c, e, hm, hr⟩ := spI.own_rd h
  refine ⟨A, c, e, hm, hr, ?_⟩
  rcases h.1.2 with ⟨h2, h0⟩ | ⟨g, cap, cur, hv, -, -, h1, -⟩
  · omega
  · rw [e] at hv
    simp only [Value.slice.injEq] at hv
    omega
theorem MadeNC.nil {w w' : World} {n c : Int} (hb : Below w.heap.size w w') : MadeNC spI [] n c w (.returned (.tuple #[.slice none 0 0, .int .i64 n, .int .i64 c])) w' := MadeNC.list (World.ownsRow_nil _ _ _ _) (by simp) hb
theorem Num.colR_len (n : Nat) (r : Option (List Int × Nat)) : (Num.colR n r).length ≤ n := by
  cases r with
  | none => simp [Num.colR]
  | some p => show (Num.sumW (n : Int) p.1).length ≤ n; unfold Num.sumW; rw [Num.sumF_len, List.length_replicate]; omega
set_option maxRecDepth 100000 in
set_option maxHeartbeats 2000000 in
theorem sCollectStep_ok (v0 : Value) (p : Pres) (v1 : Value) (x : List Int) (w : World) (h0 : spPres.rd w v0 p) (h1 : CapI w v1 x) (s0 : spPres.sz p ≤ 1048576) (s1 : spI.sz x ≤ 1048576) : Calls Try.prog 41 #[v0, v1] w (MadeNC spI (rCollectStep p x) (nCollectStep p x) (cCollectStep p x) w) := by
  obtain ⟨O, W, J⟩ := p
  have h0' := h0
  obtain ⟨A0, c0, A1, c1, A2, c2, rfl, ⟨hO, hW, hJ⟩, m0, -, -⟩ := pres_open h0
  replace hO : RdI w A0 O := hO
  replace hW : RdW w A1 W := hW
  replace hJ : RdX w A2 J := hJ
  simp only at h0' m0 ⊢
  obtain ⟨B, d, rfl, hl, hx, hd⟩ := h1
  have b0 : Below w.heap.size w (w.alloc (.cells #[.slice A0 O.length c0, .slice A1 W.length c1, .slice A2 J.length c2] 28)) := by go_grown
  have BX := (Blk.new w [.slice A0 O.length c0, .slice A1 W.length c1, .slice A2 J.length c2] 28)
  have HI := Lib.hid (sIsPres_any _ ⟨O, W, J⟩ _ (spPres.rd_below h0' b0))
  have HP : Hid (∀ W', Below w.heap.size w W' → Calls Try.prog 87 #[.int .i64 (O.length : Int), .slice B x.length d, .int .i64 64] W' fun e w' => e = .returned (.bool (Num.posB O.length 64 x)) ∧ W' = w') := Lib.hid fun W' hb => sPos_any O.length B d x 64 W' (hx.below' hb) hl
  have HA : Hid (∀ W', Below w.heap.size w W' → Pres.pos ⟨O, W, J⟩ x = true → Calls Try.prog 88 #[.agg #[.slice A0 O.length c0, .slice A1 W.length c1, .slice A2 J.length c2], .slice B x.length d] W' fun e w' => e = .returned (.int .i64 (Num.stI O x)) ∧ Below W'.heap.size W' w') := Lib.hid fun W' hb hp => by
    obtain ⟨k1, k2, k3⟩ := Pres.pos_out hp
    exact sAt_any A0 A1 A2 B c0 _ c1 _ c2 d O x W' (hO.below' hb) (hx.below' hb) (by omega) k3 (Num.V9.of k1).n6
  have HS : Hid (∀ W', Below w.heap.size w W' → Pres.pos ⟨O, W, J⟩ x = true → Num.atW O x < x.length → Calls Try.prog 89 #[.agg #[.slice A0 O.length c0, .slice A1 W.length c1, .slice A2 J.length c2], .slice B x.length d, .int .i64 (Num.atW O x : Int)] W' fun e w' => ∃ u, e = .returned u ∧ OwnI w' W'.heap.size u (Num.stpW O W J x (Num.atW O x)) ∧ Below W'.heap.size W' w') := Lib.hid fun W' hb hp hat => by
    obtain ⟨k1, k2, k3⟩ := Pres.pos_out hp
    exact sStep_any A0 A1 A2 B c0 c1 c2 d O W J x _ W' (Num.V9.of k1) (hO.below' hb) (hW.below' hb) (hJ.below' hb) (hx.below' hb) (by omega) hd k3 hat (Num.atW_red hat)
  have HO : Hid (∀ W', Below w.heap.size w W' → Pres.pos ⟨O, W, J⟩ x = true → Calls Try.prog 86 #[.slice B x.length d] W' fun e w' => ∃ u, e = .returned u ∧ OwnI w' W'.heap.size u x ∧ Below W'.heap.size W' w') := Lib.hid fun W' hb hp => sOwnI_any B _ d x W' (hx.below' hb) rfl (by have := (Pres.pos_out hp).2.1; omega)
  generalize hW0 : (w.alloc (.cells #[.slice A0 O.length c0, .slice A1 W.length c1, .slice A2 J.length c2] 28)) = W0 at *
  obtain ⟨bl, x0, x1, x2⟩ := BX.c3
  clear hO hW hJ h0' hx
  cases hk : Pres.ok ⟨O, W, J⟩ with
  | true =>
    rw [hk] at HI
    cases hp : Num.posB O.length 64 x with
    | true =>
      rw [hp] at HP
      have hpos : Pres.pos ⟨O, W, J⟩ x = true := by unfold Pres.pos; rw [hk, Bool.true_and]; exact hp
      obtain ⟨-, hl64, hpw⟩ := Pres.pos_out hpos
      have HV := Lib.hid (Num.V9.of (O := O) (W := W) (J := J) hk)
      have HA2 := Lib.hid (fun W' hb => HA.out W' hb hpos)
      by_cases hat : Num.atW O x < x.length
      · have HR : Hid (rCollectStep ⟨O, W, J⟩ x = Num.stpW O W J x (Num.atW O x) ∧ nCollectStep ⟨O, W, J⟩ x = (Num.atW O x : Int) ∧ cCollectStep ⟨O, W, J⟩ x = 0) := Lib.hid ⟨by unfold rCollectStep; rw [if_pos hpos, if_pos hat], by unfold nCollectStep; rw [if_pos hpos]; exact Num.stI_yes hat, if_pos hpos⟩
        have hsl := Num.stpW_len HV.out hpw hat
        have HS2 := Lib.hid (fun W' hb => HS.out W' hb hpos hat)
        rw [Num.stI_yes hat] at HA2
        clear hk hp hpos HA HS HO hpw
        generalize Num.stpW O W J x (Num.atW O x) = y at *
        generalize Num.atW O x = t at *
        have t0 : ¬ (t : Int) < 0 := by omega
        go_enter Try.func41, Try.ntmps41
        go_wp2_with (fail)
        clear hW0
        refine HI.out.mono ?_; rintro e w1 ⟨rfl, hb1⟩
        have L1 := bstep b0 b0.size hb1
        have BX1 := BX.below hb1
        obtain ⟨bl1, y0, y1, y2⟩ := BX1.c3
        have HP1 := Lib.hid (HP.out w1 L1)
        have HA1 := Lib.hid (HA2.out w1 L1)
        clear HI HP HA2 x0 x1 x2
        go_wp2_with (fail)
        refine HP1.out.mono ?_; rintro e w2 ⟨rfl, rfl⟩
        go_wp2_with (fail)
        refine HA1.out.mono ?_; rintro e w2 ⟨rfl, hb2⟩
        have L2 := bstep L1 L1.size hb2
        obtain ⟨bl2, z0, z1, z2⟩ := (BX1.below hb2).c3
        have HS1 := Lib.hid (HS2.out w2 L2)
        clear y0 y1 y2 HA1 HP1 HS2
        go_wp2_with (fail)
        refine HS1.out.mono ?_; rintro e w3 ⟨u3, rfl, ow3, hb3⟩
        have HO3 := Lib.hid ow3
        clear ow3
        go_wp2_with (fail)
        go_ret3
        rw [HR.out.1, HR.out.2.1, HR.out.2.2]
        exact MadeNC.list (HO3.out.base_ L2.size) (by omega) (bstep L2 L2.size hb3)
      · have HR : Hid (rCollectStep ⟨O, W, J⟩ x = x ∧ nCollectStep ⟨O, W, J⟩ x = -1 ∧ cCollectStep ⟨O, W, J⟩ x = 0) := Lib.hid ⟨by unfold rCollectStep; rw [if_pos hpos, if_neg hat], by unfold nCollectStep; rw [if_pos hpos]; exact Num.stI_no hat, if_pos hpos⟩
        have HS2 := Lib.hid (fun W' hb => HO.out W' hb hpos)
        rw [Num.stI_no hat] at HA2
        clear hk hp hpos HA HS HO hpw hat
        go_enter Try.func41, Try.ntmps41
        go_wp2_with (fail)
        clear hW0
        refine HI.out.mono ?_; rintro e w1 ⟨rfl, hb1⟩
        have L1 := bstep b0 b0.size hb1
        have BX1 := BX.below hb1
        obtain ⟨bl1, y0, y1, y2⟩ := BX1.c3
        have HP1 := Lib.hid (HP.out w1 L1)
        have HA1 := Lib.hid (HA2.out w1 L1)
        clear HI HP HA2 x0 x1 x2
        go_wp2_with (fail)
        refine HP1.out.mono ?_; rintro e w2 ⟨rfl, rfl⟩
        go_wp2_with (fail)
        refine HA1.out.mono ?_; rintro e w2 ⟨rfl, hb2⟩
        have L2 := bstep L1 L1.size hb2
        have HS1 := Lib.hid (HS2.out w2 L2)
        clear y0 y1 y2 HA1 HP1 HS2
        go_wp2_with (fail)
        refine HS1.out.mono ?_; rintro e w3 ⟨u3, rfl, ow3, hb3⟩
        have HO3 := Lib.hid ow3
        clear ow3
        go_wp2_with (fail)
        go_ret3
        rw [HR.out.1, HR.out.2.1, HR.out.2.2]
        exact MadeNC.list (HO3.out.base_ L2.size) (by omega) (bstep L2 L2.size hb3)
    | false =>
      rw [hp] at HP
      have hpos : Pres.pos ⟨O, W, J⟩ x = false := by unfold Pres.pos; rw [show Num.posB (Pres.mk O W J).O.length 64 x = false from hp, Bool.and_false]
      have HR : Hid (rCollectStep ⟨O, W, J⟩ x = [] ∧ nCollectStep ⟨O, W, J⟩ x = 0 ∧ cCollectStep ⟨O, W, J⟩ x = 1) := Lib.hid ⟨by unfold rCollectStep; simp [hpos], by unfold nCollectStep; simp [hpos], by unfold cCollectStep; simp [hpos]⟩
      clear hk hp hpos HA HS HO
      go_enter Try.func41, Try.ntmps41
      go_wp2_with (fail)
      clear hW0
      refine HI.out.mono ?_; rintro e w1 ⟨rfl, hb1⟩
      have L1 := bstep b0 b0.size hb1
      obtain ⟨bl1, y0, y1, y2⟩ := (BX.below hb1).c3
      have HP1 := Lib.hid (HP.out w1 L1)
      clear HI HP x0 x1 x2
      go_wp2_with (fail)
      refine HP1.out.mono ?_; rintro e w2 ⟨rfl, rfl⟩
      go_wp2_with (fail)
      go_ret3
      rw [HR.out.1, HR.out.2.1, HR.out.2.2]
      exact MadeNC.nil L1
  | false =>
    rw [hk] at HI
    have hpos : Pres.pos ⟨O, W, J⟩ x = false := by unfold Pres.pos; rw [hk, Bool.false_and]
    have HR : Hid (rCollectStep ⟨O, W, J⟩ x = [] ∧ nCollectStep ⟨O, W, J⟩ x = 0 ∧ cCollectStep ⟨O, W, J⟩ x = 1) := Lib.hid ⟨by unfold rCollectStep; simp [hpos], by unfold nCollectStep; simp [hpos], by unfold cCollectStep; simp [hpos]⟩
    clear hk hpos HP HA HS HO
    go_enter Try.func41, Try.ntmps41
    go_wp2_with (fail)
    clear hW0
    refine HI.out.mono ?_; rintro e w1 ⟨rfl, hb1⟩
    go_wp2_with (fail)
    go_ret3
    rw [HR.out.1, HR.out.2.1, HR.out.2.2]
    exact MadeNC.nil (bstep b0 b0.size hb1)
set_option maxRecDepth 100000 in
set_option maxHeartbeats 2000000 in
theorem sCollectWord_ok (v0 : Value) (p : Pres) (v1 : Value) (x : List Int) (L : Int) (w : World) (h0 : spPres.rd w v0 p) (h1 : spI.rd w v1 x) (s0 : spPres.sz p ≤ 1048576) (s1 : spI.sz x ≤ 1048576) : Calls Try.prog 44 #[v0, v1, .int .i64 L] w (MadeNC spI (rCollectWord p x L) (nCollectWord p x L) (cCollectWord p x L) w) := by
  obtain ⟨O, W, J⟩ := p
  have h0' := h0
  obtain ⟨A0, c0, A1, c1, A2, c2, rfl, ⟨hO, hW, hJ⟩, m0, -, -⟩ := pres_open h0
  replace hO : RdI w A0 O := hO
  replace hW : RdW w A1 W := hW
  replace hJ : RdX w A2 J := hJ
  simp only at h0' m0 ⊢
  obtain ⟨B, d, rfl, hl, hx⟩ := h1
  have b0 : Below w.heap.size w (w.alloc (.cells #[.slice A0 O.length c0, .slice A1 W.length c1, .slice A2 J.length c2] 28)) := by go_grown
  have BX := (Blk.new w [.slice A0 O.length c0, .slice A1 W.length c1, .slice A2 J.length c2] 28)
  have HI := Lib.hid (sIsPres_any _ ⟨O, W, J⟩ _ (spPres.rd_below h0' b0))
  have HP : Hid (∀ W', Below w.heap.size w W' → Calls Try.prog 87 #[.int .i64 (O.length : Int), .slice B x.length d, .int .i64 64] W' fun e w' => e = .returned (.bool (Num.posB O.length 64 x)) ∧ W' = w') := Lib.hid fun W' hb => sPos_any O.length B d x 64 W' (hx.below' hb) hl
  have HC : Hid (∀ W', Below w.heap.size w W' → Pres.pos ⟨O, W, J⟩ x = true → Num.limB L = true → Calls Try.prog 90 #[.agg #[.slice A0 O.length c0, .slice A1 W.length c1, .slice A2 J.length c2], .slice B x.length d, .int .i64 L] W' fun e w' => ∃ u, e = .returned (.tuple #[u, .int .i64 (Num.colS (tCollectWord ⟨O, W, J⟩ x L)), .bool (tCollectWord ⟨O, W, J⟩ x L).isSome]) ∧ OwnI w' W'.heap.size u (Num.colR O.length (tCollectWord ⟨O, W, J⟩ x L)) ∧ Below W'.heap.size W' w') := Lib.hid fun W' hb hp hL => by
    obtain ⟨k1, k2, k3⟩ := Pres.pos_out hp
    have hL2 : 0 ≤ L ∧ L ≤ 2000 := of_decide_eq_true hL
    have := sCollect_any A0 A1 A2 B c0 c1 c2 d L.toNat O W J x W' (Num.V9.of k1) (hO.below' hb) (hW.below' hb) (hJ.below' hb) (hx.below' hb) (by omega) k3 (by omega)
    rwa [Int.toNat_of_nonneg hL2.1] at this
  generalize hW0 : (w.alloc (.cells #[.slice A0 O.length c0, .slice A1 W.length c1, .slice A2 J.length c2] 28)) = W0 at *
  obtain ⟨bl, x0, x1, x2⟩ := BX.c3
  clear hO hW hJ h0' hx
  cases hk : Pres.ok ⟨O, W, J⟩ with
  | true =>
    rw [hk] at HI
    cases hp : Num.posB O.length 64 x with
    | true =>
      rw [hp] at HP
      have hpos : Pres.pos ⟨O, W, J⟩ x = true := by unfold Pres.pos; rw [hk, Bool.true_and]; exact hp
      have h6 := (Num.V9.of (O := O) (W := W) (J := J) hk).n6
      cases hL : Num.limB L with
      | true =>
        have HR : Hid (rCollectWord ⟨O, W, J⟩ x L = Num.colR O.length (tCollectWord ⟨O, W, J⟩ x L) ∧ nCollectWord ⟨O, W, J⟩ x L = Num.colS (tCollectWord ⟨O, W, J⟩ x L) ∧ cCollectWord ⟨O, W, J⟩ x L = Num.nfC (tCollectWord ⟨O, W, J⟩ x L)) := Lib.hid ⟨if_pos ⟨hpos, hL⟩, if_pos ⟨hpos, hL⟩, by unfold cCollectWord; rw [if_neg (by rw [hpos]; simp), if_neg (by rw [hL]; simp)]⟩
        have HC2 := Lib.hid (fun W' hb => HC.out W' hb hpos hL)
        have HI2 := Lib.hid (sIn_yes L 0 2000 · (of_decide_eq_true hL).1 (of_decide_eq_true hL).2)
        have hcl := Num.colR_len O.length (tCollectWord ⟨O, W, J⟩ x L)
        clear hk hp hpos HC hL
        cases hT : tCollectWord ⟨O, W, J⟩ x L with
        | some r =>
          rw [hT] at HC2 HR hcl
          generalize Num.colR O.length (some r) = y at *
          have e1 : Num.colS (some r) = (r.2 : Int) := rfl
          have e2 : Num.nfC (some r) = 0 := rfl
          rw [e1] at HC2 HR
          rw [e2] at HR
          clear hT e1 e2
          go_enter Try.func44, Try.ntmps44
          go_wp2_with (fail)
          clear hW0
          refine HI.out.mono ?_; rintro e w1 ⟨rfl, hb1⟩
          have L1 := bstep b0 b0.size hb1
          have BX1 := BX.below hb1
          obtain ⟨bl1, y0, y1, y2⟩ := BX1.c3
          have HP1 := Lib.hid (HP.out w1 L1)
          have HC1 := Lib.hid (HC2.out w1 L1)
          clear HI HP HC2 x0 x1 x2
          go_wp2_with (fail)
          refine HP1.out.mono ?_; rintro e w2 ⟨rfl, rfl⟩
          go_wp2_with (fail)
          refine (HI2.out w1).mono ?_; rintro e w2 ⟨rfl, rfl⟩
          go_wp2_with (fail)
          refine HC1.out.mono ?_; rintro e w3 ⟨u3, rfl, ow3, hb3⟩
          have HO3 := Lib.hid ow3
          clear ow3
          go_wp2_with (fail)
          go_ret3
          rw [HR.out.1, HR.out.2.1, HR.out.2.2]
          exact MadeNC.list (HO3.out.base_ L1.size) (by omega) (bstep L1 L1.size hb3)
        | none =>
          rw [hT] at HC2 HR hcl
          have e1 : Num.colS none = 0 := rfl
          have e2 : Num.nfC none = 3 := rfl
          have e3 : Num.colR O.length none = [] := rfl
          rw [e1] at HC2 HR
          rw [e2, e3] at HR
          clear hT e1 e2 e3
          go_enter Try.func44, Try.ntmps44
          go_wp2_with (fail)
          clear hW0
          refine HI.out.mono ?_; rintro e w1 ⟨rfl, hb1⟩
          have L1 := bstep b0 b0.size hb1
          have BX1 := BX.below hb1
          obtain ⟨bl1, y0, y1, y2⟩ := BX1.c3
          have HP1 := Lib.hid (HP.out w1 L1)
          have HC1 := Lib.hid (HC2.out w1 L1)
          clear HI HP HC2 x0 x1 x2
          go_wp2_with (fail)
          refine HP1.out.mono ?_; rintro e w2 ⟨rfl, rfl⟩
          go_wp2_with (fail)
          refine (HI2.out w1).mono ?_; rintro e w2 ⟨rfl, rfl⟩
          go_wp2_with (fail)
          refine HC1.out.mono ?_; rintro e w3 ⟨u3, rfl, -, hb3⟩
          go_wp2_with (fail)
          go_ret3
          rw [HR.out.1, HR.out.2.1, HR.out.2.2]
          exact MadeNC.nil (bstep L1 L1.size hb3)
      | false =>
        have HR : Hid (rCollectWord ⟨O, W, J⟩ x L = [] ∧ nCollectWord ⟨O, W, J⟩ x L = 0 ∧ cCollectWord ⟨O, W, J⟩ x L = 2) := Lib.hid ⟨by unfold rCollectWord; simp [hL], by unfold nCollectWord; simp [hL], by unfold cCollectWord; simp [hpos, hL]⟩
        have hL2 : L < 0 ∨ 2000 < L := by have h := of_decide_eq_false hL; omega
        have HI2 := Lib.hid (sIn_no L 0 2000 · hL2)
        clear hk hp hpos HC hL hL2
        go_enter Try.func44, Try.ntmps44
        go_wp2_with (fail)
        clear hW0
        refine HI.out.mono ?_; rintro e w1 ⟨rfl, hb1⟩
        have L1 := bstep b0 b0.size hb1
        have BX1 := BX.below hb1
        obtain ⟨bl1, y0, y1, y2⟩ := BX1.c3
        have HP1 := Lib.hid (HP.out w1 L1)
        clear HI HP x0 x1 x2
        go_wp2_with (fail)
        refine HP1.out.mono ?_; rintro e w2 ⟨rfl, rfl⟩
        go_wp2_with (fail)
        refine (HI2.out w1).mono ?_; rintro e w2 ⟨rfl, rfl⟩
        go_wp2_with (fail)
        go_ret3
        rw [HR.out.1, HR.out.2.1, HR.out.2.2]
        exact MadeNC.nil L1
    | false =>
      rw [hp] at HP
      have hpos : Pres.pos ⟨O, W, J⟩ x = false := by unfold Pres.pos; rw [show Num.posB (Pres.mk O W J).O.length 64 x = false from hp, Bool.and_false]
      have HR : Hid (rCollectWord ⟨O, W, J⟩ x L = [] ∧ nCollectWord ⟨O, W, J⟩ x L = 0 ∧ cCollectWord ⟨O, W, J⟩ x L = 1) := Lib.hid ⟨by unfold rCollectWord; simp [hpos], by unfold nCollectWord; simp [hpos], by unfold cCollectWord; simp [hpos]⟩
      clear hk hp hpos HC
      go_enter Try.func44, Try.ntmps44
      go_wp2_with (fail)
      clear hW0
      refine HI.out.mono ?_; rintro e w1 ⟨rfl, hb1⟩
      have L1 := bstep b0 b0.size hb1
      obtain ⟨bl1, y0, y1, y2⟩ := (BX.below hb1).c3
      have HP1 := Lib.hid (HP.out w1 L1)
      clear HI HP x0 x1 x2
      go_wp2_with (fail)
      refine HP1.out.mono ?_; rintro e w2 ⟨rfl, rfl⟩
      go_wp2_with (fail)
      go_ret3
      rw [HR.out.1, HR.out.2.1, HR.out.2.2]
      exact MadeNC.nil L1
  | false =>
    rw [hk] at HI
    have hpos : Pres.pos ⟨O, W, J⟩ x = false := by unfold Pres.pos; rw [hk, Bool.false_and]
    have HR : Hid (rCollectWord ⟨O, W, J⟩ x L = [] ∧ nCollectWord ⟨O, W, J⟩ x L = 0 ∧ cCollectWord ⟨O, W, J⟩ x L = 1) := Lib.hid ⟨by unfold rCollectWord; simp [hpos], by unfold nCollectWord; simp [hpos], by unfold cCollectWord; simp [hpos]⟩
    clear hk hpos HP HC
    go_enter Try.func44, Try.ntmps44
    go_wp2_with (fail)
    clear hW0
    refine HI.out.mono ?_; rintro e w1 ⟨rfl, hb1⟩
    go_wp2_with (fail)
    go_ret3
    rw [HR.out.1, HR.out.2.1, HR.out.2.2]
    exact MadeNC.nil (bstep b0 b0.size hb1)
end Go.Proofs.Ytahmhdpgdhfjnaa
