/- Tails of presentations: the model. -/
import Derived.Test.YtahmhdpgdhfjnaaL13R
import Derived.Handy
namespace Go.Proofs.Ytahmhdpgdhfjnaa
open Go.RowKit
set_option linter.unusedVariables false
set_option linter.unusedSimpArgs false

set_option maxRecDepth 100000 in
set_option maxHeartbeats 4000000 in
theorem sTail_any (A0 A1 A2 : Option Addr) (c0 c1 c2 a : Nat) (O : List Int) (W : List (List Int)) (J : List (List (List Int))) (w : World) (hO : RdI w A0 O) (hW : RdWK w A1 W) (hJ : RdXM w A2 J) (V : Num.Shp9 O W J) (hab : a ≤ O.length) (hc0 : O.length ≤ c0) :
    Calls Try.prog 74 #[.agg #[.slice A0 O.length c0, .slice A1 W.length c1, .slice A2 J.length c2], .int .i64 (a : Int)] w (Made spPres (partP O W J a O.length) w) := by
  have h6 := V.n6
  have HV := Lib.hid V
  have b0 : Below w.heap.size w ((w.alloc (.cells #[.slice A0 O.length c0, .slice A1 W.length c1, .slice A2 J.length c2] 28)).alloc (.cells #[.slice none 0 0, .slice none 0 0, .slice none 0 0] 28)) := by go_grown
  have BX0 := (Blk.new w [.slice A0 O.length c0, .slice A1 W.length c1, .slice A2 J.length c2] 28).alloc (.cells #[.slice none 0 0, .slice none 0 0, .slice none 0 0] 28)
  have BR0 : Blk ((w.alloc (.cells #[.slice A0 O.length c0, .slice A1 W.length c1, .slice A2 J.length c2] 28)).alloc (.cells #[.slice none 0 0, .slice none 0 0, .slice none 0 0] 28)) (w.heap.size + 1) [.slice none 0 0, .slice none 0 0, .slice none 0 0] 28 := by
    have := Blk.new (w.alloc (.cells #[.slice A0 O.length c0, .slice A1 W.length c1, .slice A2 J.length c2] 28)) [.slice none 0 0, .slice none 0 0, .slice none 0 0] 28
    simpa using this
  have a0 : (0 : Int) ≤ (a : Int) := by omega
  have a1 : (a : Int) ≤ (O.length : Int) := by omega
  have a2 : (O.length : Int) ≤ (c0 : Int) := by omega
  have a3 : (a : Int) ≤ (c0 : Int) := by omega
  have ab2 : ((O.length : Int) - (a : Int)).toNat = O.length - a := by omega
  have hz2 : ((w.alloc (.cells #[.slice A0 O.length c0, .slice A1 W.length c1, .slice A2 J.length c2] 28)).alloc (.cells #[.slice none 0 0, .slice none 0 0, .slice none 0 0] 28)).heap.size = w.heap.size + 2 := by simp
  generalize hW0 : ((w.alloc (.cells #[.slice A0 O.length c0, .slice A1 W.length c1, .slice A2 J.length c2] 28)).alloc (.cells #[.slice none 0 0, .slice none 0 0, .slice none 0 0] 28)) = W0 at *
  obtain ⟨bl, x0, x1, x2⟩ := BX0.c3
  have hRO := rdI_part (a := a) (b := O.length) (hO.below' b0) hc0
  obtain ⟨AD, hAD⟩ : ∃ AD, (if c0 = a then A0 else A0.map fun p => p.add a) = AD := ⟨_, rfl⟩
  rw [hAD] at hRO
  have HOW := Lib.hid (sOwnI_any AD (O.length - a) (c0 - a) (Num.ptV a O.length O) W0 hRO (Num.ptV_len (Nat.le_refl _)) (by have := Num.ptV_le a O.length O h6; omega))
  have HWx := Lib.hid hW
  have HJx := Lib.hid hJ
  have hz0 := b0.size
  have hBR0 := BR0.lt
  clear hO hW hJ hRO V
  go_enter Try.func74, Try.ntmps74
  go_wp2_with (fail)
  clear hW0
  refine HOW.out.mono ?_; rintro e w1 ⟨u0, rfl, ow0, hb1⟩
  obtain ⟨A9, n9, c9, rfl, e9⟩ := ow0.formN
  generalize hOV : Num.ptV a O.length O = OV at *
  have L1 := bstep b0 b0.size hb1
  have PB0 : PBox W0.heap.size (w1.alloc (.cells #[.slice A9 n9 c9, .slice none 0 0, .slice none 0 0] 28)) w1.heap.size OV [] [] (.slice A9 n9 c9) (.slice none 0 0) (.slice none 0 0) (fun k => (Value.slice A9 n9 c9).ownBlock = some k) (fun _ => False) (fun _ => False) :=
    ⟨Blk.new w1 _ _, spI.own_alloc (spI_of ow0) _, spL_nil _ _ _ _, spL_nil _ _ _ _, fun k _ h => h, fun k _ h => h, fun k h => h.elim, fun k hk => by have := World.ownsRow.lt ow0 k hk; exact ⟨this.1, by omega⟩, fun k h => h.elim, fun k h => h.elim, hb1.size⟩
  have BR := (BR0.below hb1).alloc (.cells #[.slice A9 n9 c9, .slice none 0 0, .slice none 0 0] 28)
  have BX := (BX0.below hb1).alloc (.cells #[.slice A9 n9 c9, .slice none 0 0, .slice none 0 0] 28)
  have LA : Below w.heap.size w (w1.alloc (.cells #[.slice A9 n9 c9, .slice none 0 0, .slice none 0 0] 28)) := L1.alloc L1.size _
  have hb4 : w.heap.size + 2 ≤ w1.heap.size := by have := hb1.size; omega
  have HPB0 := Lib.hid PB0
  have HBR0 := Lib.hid BR
  have HBX0 := Lib.hid BX
  have HOV := Lib.hid hOV
  have HE9 := Lib.hid e9
  clear PB0 BR BX L1 hb1 ow0 HOW BR0 BX0 b0 bl x0 x1 x2 hBR0 hOV e9
  generalize hB4 : w1.heap.size = b4 at *
  generalize hZ0 : W0.heap.size = z0 at *
  go_wp2_with (fail)
  generalize hWA : w1.alloc (.cells #[.slice A9 n9 c9, .slice none 0 0, .slice none 0 0] 28) = wa at *
  clear hWA hB4 hZ0
  go_loopw [6] (fun s8 wr => ∃ (i : Nat) (v1 v2 : Value) (S1 S2 : Nat → Prop), s8 = .int .i64 i ∧ a ≤ i ∧ i ≤ O.length ∧ Hid (PBox z0 wr b4 OV (Num.ptW W a O.length (i - a)) (Num.ptJ J a O.length (i - a)) (.slice A9 n9 c9) v1 v2 (fun k => (Value.slice A9 n9 c9).ownBlock = some k) S1 S2) ∧ Hid (Blk wr (w.heap.size + 1) [.slice none 0 0, .slice none 0 0, .slice none 0 0] 28) ∧ Hid (Blk wr w.heap.size [.slice A0 O.length c0, .slice A1 W.length c1, .slice A2 J.length c2] 28) ∧ Below w.heap.size w wr) (fun s8 _ => O.length - (intOf s8).toNat)
  case atStart => exact ⟨a, _, _, _, _, rfl, Nat.le_refl _, hab, by rw [Nat.sub_self]; exact HPB0, HBR0, HBX0, LA⟩
  case round =>
    obtain ⟨i, v1, v2, S1, S2, rfl, hai, hib, PB, BR, BX, bel⟩ := hrel
    clear HPB0 HBR0 HBX0 LA
    have Z := bel.size
    obtain ⟨bx, p0, p1, p2⟩ := BX.out.c3
    by_cases hlt : i < O.length
    · have i0 : (0 : Int) ≤ (i : Int) := by omega
      have i1 : (i : Int) < (O.length : Int) := by omega
      have hw1 : IntKind.i64.wrap ((i : Int) + 1) = (i : Int) + 1 := IntWalk.i64_in _ (by omega)
      obtain ⟨-, ⟨A1', c1', e1⟩, A2', c2', e2⟩ := PB.out.forms
      rw [Num.ptW_len] at e1
      rw [Num.ptJ_len] at e2
      subst e1 e2
      have hlJ := HV.out.lj
      have hlW := HV.out.lw
      obtain ⟨gj, oj, Bj, cj, hA2, hgj, hcj, -, hrj, hkj⟩ := (HJx.out.below' bel) i (by rw [hlJ]; omega)
      obtain ⟨gw, ow, Bw, cw, hA1, hgw, hcw, -, hrw, hkw⟩ := (HWx.out.below' bel) i (by rw [hlW]; omega)
      have j1 : (i : Int) < (J.length : Int) := by omega
      have j2 : (i : Int) < (W.length : Int) := by omega
      have hlr := HV.out.lr i (by omega)
      have hlw := HV.out.wl i (by omega)
      have hlc := fun k hk => HV.out.cl i k (by omega) hk
      clear hlJ hlW
      have HSW := Lib.hid (Num.ptW_step W (b := O.length) hai)
      have HSJ := Lib.hid (Num.ptJ_step J (b := O.length) hai)
      have hlW' : (Num.ptW W a O.length (i - a)).length ≤ 1000000 := by rw [Num.ptW_len]; omega
      have hlJ' : (Num.ptJ J a O.length (i - a)).length ≤ 1000000 := by rw [Num.ptJ_len]; omega
      generalize Num.ptW W a O.length (i - a) = ws at *
      generalize Num.ptJ J a O.length (i - a) = js at *
      generalize hrow : J.getD i [] = row at *
      generalize hwow : W.getD i [] = wrow at *
      obtain ⟨nr, hnr⟩ : ∃ nr, row.length = nr := ⟨_, rfl⟩
      rw [hnr] at hcj hkj
      have hnr9 : nr = O.length - i - 1 := by omega
      have hRW3 := rdI_part (a := a) (b := O.length) (hrw.below' (Below.refl _ _).drew) hkw
      rw [hlw] at hcw hkw
      have hlcm : ∀ k, k < nr → (row.getD k []).length = O.length := fun k hk => hlc k (by omega)
      have HFA := Lib.hid hlcm
      have HFB : Hid (nr = row.length) := Lib.hid hnr.symm
      have HROW := Lib.hid hrow
      have HRJ := Lib.hid hrj
      rw [← hnr9] at HSJ
      have hmb : nr ≤ 6 := by omega
      have hnwb : (O.length : Int) ≤ (cw : Int) := by omega
      have hnwa : (a : Int) ≤ (cw : Int) := by omega
      have HCW := Lib.hid (sOwnI_any _ (O.length - a) (cw - a) (Num.ptV a O.length wrow) wr.drew hRW3 (Num.ptV_len (by omega)) (by have := Num.ptV_le a O.length wrow (by omega); omega))
      generalize Num.ptV a O.length wrow = wv at *
      clear hlr hlw hlc hlcm hnr hrj hrw hrow hwow hRW3
      obtain ⟨bl, x0, x1, x2⟩ := PB.out.box.c3
      have fr := PB.out.box.free 1
      subst hA2 hA1
      go_wp2_with (fail)
      go_region_law (first
        | (go_simp; go_at_call 86; refine HCW.out.mono ?_; rintro e w3 ⟨u3, rfl, o3, hb3⟩; obtain ⟨A3, n3, c3, rfl, e3⟩ := o3.formN; have L3 : Below wr.heap.size wr w3 := (Below.refl _ _).drew.trans hb3; have SM3 : w3.cell? ⟨b4, 1, none⟩ = some (.slice A1' (i - a) c1') := (by rw [L3.cell bl]; exact x1); have HPB3 := Lib.hid (PB.out.below L3); have HPA := HPB3.out.o1; have HPC := spI_of o3; have HPB : ∀ k, S1 k → ¬ ((Value.slice A3 n3 c3).ownBlock = some k) := (fun k h1 h2 => by have := spII.own_lt PB.out.o1 h1; have := World.ownsRow.lt o3 k h2; simp only [World.size_drew] at this; omega); have t3 : b4 < w3.heap.size := Nat.lt_of_lt_of_le bl L3.size)
        | (refine step_push (s := spI) (nul := []) w3 rfl (.tmp 24) (.tmp 33) 25 24 rfl Try.underlying25 infoII S1 (fun k => (Value.slice A3 n3 c3).ownBlock = some k) (.slice A1' (i - a) c1') (.slice A3 n3 c3) ws wv rfl rfl HPA HPC rfl HPB hlW' ?_; intro v7 w7 S7 own7 hS7 ch7 fm7; obtain ⟨A7, c7, rfl⟩ := fm7; have SM7 : w7.cell? ⟨b4, 1, none⟩ = some (.slice A1' (i - a) c1') := (by have h9 := (HPB3.out.box.chg ch7 (fun hh => (HPB3.out.s1 _ hh).2 rfl)).cell 1 (by simp); exact h9); have SF7 : w7.frozen? ⟨b4, 1, none⟩ = false := (HPB3.out.box.chg ch7 (fun hh => (HPB3.out.s1 _ hh).2 rfl)).free 1))
      all_goals
        have CH8 : ChgS S1 wr w7 := (ChgS.of_below L3).trans ch7
        have PB8 := PB.out.putW CH8 own7 (fun k hk => by
          have hq2 := L3.size
          rcases hS7 k hk with h | h | h
          · exact .inl h
          · exact .inr (by have := (World.ownsRow.lt o3 k h).1; simp only [World.size_drew] at this; omega)
          · exact .inr (by omega))
        have L8 := (bstepS bel Z (fun k hk => by have := PB.out.s1 k hk; omega) CH8).setCell (p := ⟨b4, 1, none⟩) (by simp; omega) (.slice A7 (ws.length + 1) c7)
        have BR8 := (BR.out.chg CH8 (fun hh => by have := PB.out.s1 _ hh; omega)).other (p := ⟨b4, 1, none⟩) (by simp; omega) (.slice A7 (ws.length + 1) c7)
        have BX8 := (BX.out.chg CH8 (fun hh => by have := PB.out.s1 _ hh; omega)).other (p := ⟨b4, 1, none⟩) (by simp; omega) (.slice A7 (ws.length + 1) c7)
        have HPB8 := Lib.hid PB8
        have HBR8 := Lib.hid BR8
        have HBX8 := Lib.hid BX8
        clear PB8 BR8 BX8 CH8 own7 ch7 hS7 SM7 SF7 PB BR BX HPB3 HPA HPC HPB o3 L3 SM3 bel x0 x1 x2 fr bl t3 HCW p0 p1 p2 bx hb3 hgj hcj hgw hcw HRJ
        obtain ⟨W8, hW8⟩ : ∃ X, w7.setCell ⟨b4, 1, none⟩ (.slice A7 (ws.length + 1) c7) = X := ⟨_, rfl⟩
        rw [hW8] at HPB8 HBR8 HBX8 L8
        have own9 : Hid (spII.own (W8.alloc (.cells #[] 24)) (fun k => k = W8.heap.size) (.slice (some ⟨W8.heap.size, 0, none⟩) 0 0) (Num.ptR row a O.length 0)) := Lib.hid (spL_empty _ _ _ _)
        have B9 : Below W8.heap.size W8 (W8.alloc (.cells #[] 24)) := by go_grown
        go_wp2_with (fail)
        clear hW8
        go_loopw [7, 8] (fun s6 s7 wr => ∃ (k : Nat) (S3 : Nat → Prop), s7 = .int .i64 (k : Int) ∧ k ≤ nr ∧ Hid (spII.own wr S3 s6 (Num.ptR row a O.length k)) ∧ Hid (∀ k, S3 k → W8.heap.size ≤ k) ∧ Below W8.heap.size W8 wr) (fun _ s7 _ => nr - (intOf s7).toNat)
        case atStart => exact ⟨0, _, rfl, by omega, own9, Lib.hid (fun k hk => by omega), B9⟩
        case round =>
          clear own9 B9
          obtain ⟨k, S3, rfl, hk, own, hS, be8⟩ := hrel
          have L9 := bstep L8 L8.size be8
          have HBX9 := Lib.hid (HBX8.out.below be8)
          obtain ⟨bx, p0, p1, p2⟩ := HBX9.out.c3
          obtain ⟨gj', oj', Bj', cj', hA2', hgj, hcj, -, hrj, -⟩ := (HJx.out.below' L9) i (by have := HV.out.lj; omega)
          simp only [Option.some.injEq, Addr.mk.injEq] at hA2'
          obtain ⟨rfl, rfl, -⟩ := hA2'
          rw [HROW.out] at hcj hrj
          rw [← HFB.out] at hcj
          by_cases hlk : k < nr
          · have k0 : (0 : Int) ≤ (k : Int) := by omega
            have k1 : (k : Int) < (nr : Int) := by omega
            have k2 : IntKind.i64.wrap ((k : Int) + 1) = (k : Int) + 1 := IntWalk.i64_in _ (by omega)
            obtain ⟨gq, oq, Bq, cq, hBj, hgq, hcq, -, hrq, hkq⟩ := hrj k (by have := HFB.out; omega)
            have hql := HFA.out k hlk
            rw [hql] at hcq hkq
            have hRQ := rdI_part (a := a) (b := O.length) hrq (by rw [hql]; exact hkq)
            have q1 : (O.length : Int) ≤ (cq : Int) := by omega
            have q2 : (a : Int) ≤ (cq : Int) := by omega
            rw [if_neg (by omega : ¬ cq = a)] at hRQ
            have HCL := Lib.hid (sOwnI_any _ (O.length - a) (cq - a) (Num.ptV a O.length (row.getD k [])) wr hRQ (Num.ptV_len (by omega)) (by have := Num.ptV_le a O.length (row.getD k []) (by omega); omega))
            have HSK : Hid (Num.ptR row a O.length (k + 1) = Num.ptR row a O.length k ++ [Num.ptV a O.length (row.getD k [])]) := Lib.hid rfl
            have hlr : (Num.ptR row a O.length k).length ≤ 1000000 := by rw [Num.ptR_len]; omega
            generalize Num.ptR row a O.length k = rs at *
            generalize Num.ptV a O.length (row.getD k []) = un at *
            clear hrq hRQ hql hrj
            subst hBj
            go_wp2_with (fail)
            refine HCL.out.mono ?_; rintro e w5 ⟨u5, rfl, ow5, hb5⟩
            obtain ⟨A6, n6, c6, rfl, e6⟩ := ow5.formN
            have HPA := spII.own_below own.out hb5
            have HPB := apart_row own.out ow5
            have HPC := spI_of ow5
            have L5 := bstep be8 be8.size hb5
            go_wp2_with (first | (at_builtin; refine wpList_push (s := spI) (nul := []) w5 rfl _ _ 25 24 rfl Try.underlying25 infoII S3 (fun k => (Value.slice A6 n6 c6).ownBlock = some k) u7 (.slice A6 n6 c6) rs un rfl rfl HPA HPC rfl HPB hlr ?_; intro v9 w9 S9 own9 hS9 ch9 fm9))
            have HO9 : Hid (spII.own w9 S9 v9 (Num.ptR row a O.length (k + 1))) := Lib.hid (by rw [HSK.out]; exact own9)
            have L10 := bstepS L5 L5.size hS.out ch9
            have HS9 : Hid (∀ k, S9 k → W8.heap.size ≤ k) := Lib.hid fun q hq => by
              rcases hS9 q hq with h | h | h
              · exact hS.out q h
              · have := ow5.base_le q h; have := be8.size; omega
              · have := L5.size; omega
            go_wp2_with (fail)
            exact ⟨⟨k + 1, S9, by first | rfl | go_num | (congr 1; omega) | (simp; omega), by omega, HO9, HS9, L10⟩, by simp [intOf]; omega⟩
          · have hge : ¬ ((k : Int) < (nr : Int)) := by omega
            obtain rfl : k = nr := by omega
            have PB9 := HPB8.out.below be8
            generalize Num.ptR row a O.length k = rk at *
            obtain ⟨A6, c6, e6, -⟩ := spII.own_rd own.out
            obtain ⟨n6, hn6⟩ : ∃ n6, rk.length = n6 := ⟨_, rfl⟩
            rw [hn6] at e6
            subst e6
            clear hn6 hrj
            obtain ⟨bl, x0, x1, x2⟩ := PB9.box.c3
            have fr := PB9.box.free 2
            have HPB9 := Lib.hid PB9
            have HPA := PB9.o2
            have HPC := own.out
            have HPD : ∀ k, S2 k → ¬ S3 k := fun k h1 h2 => by have := spIII.own_lt HPB8.out.o2 h1; have := hS.out k h2; omega
            clear PB9
            go_wp2_with (first | (at_builtin; refine wpList_push (s := spII) (nul := []) wr rfl _ _ 26 25 rfl Try.underlying26 infoIII S2 S3 (.slice A2' (i - a) c2') (.slice A6 n6 c6) js rk rfl rfl HPA HPC rfl HPD hlJ' ?_; intro v9 w9 S9 own9 hS9 ch9 fm9; obtain ⟨A8, c8, rfl⟩ := fm9; obtain ⟨SB9, SM90, SM91, SM9⟩ := (HPB9.out.box.chg ch9 (fun hh => (HPB9.out.s2 _ hh).2 rfl)).c3; have SF9 : w9.frozen? ⟨b4, 2, none⟩ = false := (HPB9.out.box.chg ch9 (fun hh => (HPB9.out.s2 _ hh).2 rfl)).free 2))
            have CH10 : ChgS S2 W8 w9 := (ChgS.of_below be8).trans ch9
            have PB10 := HPB8.out.putJ CH10 own9 (fun k hk => by
              rcases hS9 k hk with h | h | h
              · exact .inl h
              · exact .inr (hS.out k h)
              · exact .inr (by have := be8.size; omega))
            have L10 := (bstepS L8 L8.size (fun k hk => by have := HPB8.out.s2 k hk; omega) CH10).setCell (p := ⟨b4, 2, none⟩) (by simp; omega) (.slice A8 (js.length + 1) c8)
            have BR10 := (HBR8.out.chg CH10 (fun hh => by have := HPB8.out.s2 _ hh; omega)).other (p := ⟨b4, 2, none⟩) (by simp; omega) (.slice A8 (js.length + 1) c8)
            have BX10 := (HBX8.out.chg CH10 (fun hh => by have := HPB8.out.s2 _ hh; omega)).other (p := ⟨b4, 2, none⟩) (by simp; omega) (.slice A8 (js.length + 1) c8)
            rw [← HSW.out, ← HSJ.out] at PB10
            have HPB10 := Lib.hid PB10
            have HBR10 := Lib.hid BR10
            have HBX10 := Lib.hid BX10
            clear PB10 BR10 BX10
            go_wp2_with (fail)
            exact ⟨⟨i + 1, _, _, _, _, by go_num, by omega, by omega, HPB10, HBR10, HBX10, L10⟩, by simp [intOf]; omega⟩
    · have hge : ¬ ((i : Int) < (O.length : Int)) := by omega
      obtain hi9 : i = O.length := by omega
      obtain ⟨-, ⟨A1', c1', e1⟩, A2', c2', e2⟩ := PB.out.forms
      rw [Num.ptW_len] at e1
      rw [Num.ptJ_len] at e2
      subst e1 e2
      obtain ⟨bl, x0, x1, x2⟩ := PB.out.box.c3
      obtain ⟨br, r0, r1, r2⟩ := BR.out.c3
      obtain ⟨f0, f1, f2⟩ := BR.out.f3
      have hB8 := PB.out.hB
      have ne1 : ¬ (w.heap.size + 1 = b4) := by omega
      have ne2 : ¬ (b4 = w.heap.size + 1) := by omega
      have HPB := Lib.hid PB.out
      have HI9 := Lib.hid hi9
      clear PB BR BX hi9
      go_wp2_with (fail)
      refine bodyPost_ret (v := .agg #[.slice A9 n9 c9, .slice A1' (i - a) c1', .slice A2' (i - a) c2']) (by simp [results, Try.results74, go_sem, br, r0, r1, r2]) rfl ?_
      have ow := HPB.out.own
      have bs := HPB.out.base
      have nb : ¬ ((fun k => (Value.slice A9 n9 c9).ownBlock = some k ∨ S1 k ∨ S2 k) (w.heap.size + 1)) := fun hh => by have := bs _ hh; omega
      refine ⟨_, _, rfl, ?_, fun k hk => by have := bs k hk; omega, ?_⟩
      · have e : partP O W J a O.length = ⟨OV, Num.ptW W a O.length (i - a), Num.ptJ J a O.length (i - a)⟩ := by unfold partP; rw [HOV.out, HI9.out]
        rw [e]
        exact spPres.own_set (spPres.own_set (spPres.own_set ow (p := ⟨w.heap.size + 1, 0, none⟩) nb _) (p := ⟨w.heap.size + 1, 1, none⟩) nb _) (p := ⟨w.heap.size + 1, 2, none⟩) nb _
      · exact ((bel.setCell (p := ⟨w.heap.size + 1, 0, none⟩) (by simp) _).setCell (p := ⟨w.heap.size + 1, 1, none⟩) (by simp) _).setCell (p := ⟨w.heap.size + 1, 2, none⟩) (by simp) _
end Go.Proofs.Ytahmhdpgdhfjnaa
