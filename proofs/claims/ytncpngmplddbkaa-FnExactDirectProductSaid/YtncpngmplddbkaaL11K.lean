/- Presentations: PresentationRelators of the model. -/
import Derived.Test.YtncpngmplddbkaaL11J
import Derived.Test.YtncpngmplddbkaaL10C
namespace Go.Proofs.Ytncpngmplddbkaa
open Go.RowKit
set_option linter.unusedVariables false
set_option linter.unusedSimpArgs false

theorem rels_pow (O : List Int) (W : List (List Int)) (i : Nat) : (Num.relsP O W (i + 1)).map Num.relW = (Num.relsP O W i).map Num.relW ++ [List.replicate (O.getD i 0).toNat ((i : Int) + 1) ++ Num.invW (Num.wrd (W.getD i []))] := by
  rw [Num.relsP, List.map_append]
  simp [Num.relW, Num.relL]
theorem rels_con (r : List (List Int)) (i : Nat) (o : Int) (k : Nat) : (Num.relsK r i o (k + 1)).map Num.relW = (Num.relsK r i o k).map Num.relW ++ [[-(i : Int) - 1, (i : Int) + 1 + (k : Int) + 1, (i : Int) + 1] ++ Num.invW (Num.wrd (r.getD k []))] := by
  rw [Num.relsK, List.map_append]
  simp only [List.map_cons, List.map_nil, Num.relW, Num.relL]
  rw [if_neg (by omega), show -((i : Int) + 1) = -(i : Int) - 1 by omega]
/-- A row of new memory behind a list of such, between two worlds. -/
theorem apart_row {wr w6 : World} {S : Nat → Prop} {v v6 : Value} {xs : List (List Int)} {x : List Int} (own : spII.own wr S v xs) (hx : OwnI w6 wr.heap.size v6 x) : ∀ k, S k → ¬ (v6.ownBlock = some k) := fun k h1 h2 => by
  have := spII.own_lt own h1
  have := hx.base_le k h2
  omega
set_option maxRecDepth 100000 in
set_option maxHeartbeats 4000000 in
theorem sRelators_any (A0 A1 A2 : Option Addr) (c0 c1 c2 : Nat) (O : List Int) (W : List (List Int)) (J : List (List (List Int))) (w : World) (hO : RdI w A0 O) (hW : RdW w A1 W) (hJ : RdX w A2 J) (hp : Num.preB O W J = true) :
    Calls Try.prog 57 #[.agg #[.slice A0 O.length c0, .slice A1 W.length c1, .slice A2 J.length c2]] w (Made spII ((Num.rels O W J).map Num.relW) w) := by
  obtain ⟨iT, hiT, hz0, hz1, hz2⟩ := info_parts infoI
  obtain ⟨p1, eW, eJ, pf, pc⟩ := Num.preB_out hp
  obtain ⟨h6, hg, -⟩ := Num.ordC_zero p1
  have HGO := Lib.hid fun j (hj : j < O.length) => Num.gpsB_at hg hj
  have fit : ∀ x z, Num.fitB O x z = true → x.length ≤ 6 ∧ ∀ j, j < x.length → 0 ≤ x.getD j 0 ∧ x.getD j 0 ≤ 64 := fun x z hf => by
    obtain ⟨e1, e2⟩ := Num.fitB_out hf
    refine ⟨by omega, fun j hj => ?_⟩
    have a := e2 j hj
    unfold Num.Fit at a
    have b := Num.gpsB_at hg (j := j) (by omega)
    exact ⟨a.1, by omega⟩
  have HWF : Hid (∀ i, i < O.length → (W.getD i []).length ≤ 6 ∧ ∀ j, j < (W.getD i []).length → 0 ≤ (W.getD i []).getD j 0 ∧ (W.getD i []).getD j 0 ≤ 64) := Lib.hid fun i hi => fit _ _ (pf i hi)
  have HJF : Hid (∀ i, i < O.length → (J.getD i []).length = O.length - 1 - i ∧ ∀ k, k < (J.getD i []).length → ((J.getD i []).getD k []).length ≤ 6 ∧ ∀ j, j < ((J.getD i []).getD k []).length → 0 ≤ ((J.getD i []).getD k []).getD j 0 ∧ ((J.getD i []).getD k []).getD j 0 ≤ 64) := Lib.hid fun i hi => by
    obtain ⟨a, b⟩ := Num.conB_out (pc i hi)
    exact ⟨a, fun k hk => fit _ _ (b k hk)⟩
  have b0 : Below w.heap.size w (w.alloc (.cells #[.slice A0 O.length c0, .slice A1 W.length c1, .slice A2 J.length c2] 29)) := by go_grown
  have HO := Lib.hid (hO.below' b0)
  have HW := Lib.hid (hW.below' b0)
  have HJ := Lib.hid (hJ.below' b0)
  have BX := (Blk.new w [.slice A0 O.length c0, .slice A1 W.length c1, .slice A2 J.length c2] 29).c3
  have lW : O.length ≤ W.length := by omega
  have lJ : O.length ≤ J.length := by omega
  have HWL := Lib.hid eW
  have HJL := Lib.hid eJ
  clear hO hW hJ eW eJ hp p1 pf pc fit hg
  generalize hW0 : (w.alloc (.cells #[.slice A0 O.length c0, .slice A1 W.length c1, .slice A2 J.length c2] 29)) = W0 at *
  obtain ⟨bl, bx0, bx1, bx2⟩ := BX
  go_enter Try.func57, Try.ntmps57
  go_wp2_with (fail)
  clear hW0
  have own0 : spII.own (W0.alloc (.cells #[] 22)) (fun k => k = W0.heap.size) (.slice (some ⟨W0.heap.size, 0, none⟩) 0 0) ((Num.relsP O W 0).map Num.relW) := spL_empty _ _ _ _
  have HOWN0 := Lib.hid own0
  have BB0 : Below W0.heap.size W0 (W0.alloc (.cells #[] 22)) := by go_grown
  clear own0
  go_loopw [3, 5] (fun s3 s5 wr => ∃ (i : Nat) (S : Nat → Prop), s5 = .int .i64 i ∧ i ≤ O.length ∧ Hid (spII.own wr S s3 ((Num.relsP O W i).map Num.relW)) ∧ Hid (∀ k, S k → W0.heap.size ≤ k) ∧ Below W0.heap.size W0 wr) (fun _ s5 _ => O.length - (intOf s5).toNat)
  case atStart => exact ⟨0, _, rfl, by omega, HOWN0, Lib.hid (fun k hk => by omega), BB0⟩
  case round =>
    obtain ⟨i, S, rfl, hi, own, hS, bel⟩ := hrel
    clear HOWN0 BB0
    have Z := bel.size
    by_cases hlt : i < O.length
    · have i0 : (0 : Int) ≤ (i : Int) := by omega
      have i1 : (i : Int) < (O.length : Int) := by omega
      have i2 : (i : Int) < (W.length : Int) := by omega
      have HST := Lib.hid (rels_pow O W i)
      have hln : ((Num.relsP O W i).map Num.relW).length = i := by rw [List.length_map, Num.relsP_len]
      have HLN := Lib.hid hln
      obtain ⟨g, o, eA0, hgO, hcO⟩ := HO.out i hlt
      obtain ⟨g1, o1, B1, d1, eA1, hg1, hc1, hl1, hr1⟩ := HW.out i (by omega)
      obtain ⟨hx6, hxb⟩ := HWF.out i hlt
      have hog := HGO.out i hlt
      clear hln
      generalize (Num.relsP O W i).map Num.relW = out at *
      generalize W.getD i [] = x at *
      generalize O.getD i 0 = y at *
      obtain ⟨m, rfl⟩ := Int.eq_ofNat_of_zero_le (show 0 ≤ y by omega)
      simp only [Int.toNat_natCast] at HST
      subst eA0
      subst eA1
      have hw1 : IntKind.i64.wrap ((i : Int) + 1) = (i : Int) + 1 := IntWalk.i64_in _ (by omega)
      have O0 : Hid (OwnI (wr.alloc (.cells #[] 2)) wr.heap.size (.slice (some ⟨wr.heap.size, 0, none⟩) 0 0) (List.replicate 0 ((i : Int) + 1))) := Lib.hid (World.ownsRow_lit wr #[] 0 (Nat.le_refl _) (by unfold maxLen; omega) rfl)
      have BE : Below wr.heap.size wr (wr.alloc (.cells #[] 2)) := by go_grown
      have HRX := Lib.hid hr1
      have HXB := Lib.hid hxb
      clear hr1 hxb
      go_wp2_with (fail)
      generalize hWR : wr = wo at *
      clear hWR
      go_loopw [6, 7] (fun s6 s7 wr => ∃ k : Nat, s7 = .int .i64 k ∧ k ≤ m ∧ Hid (OwnI wr wo.heap.size s6 (List.replicate k ((i : Int) + 1))) ∧ Below wo.heap.size wo wr) (fun _ s7 _ => m - (intOf s7).toNat)
      case atStart => exact ⟨0, rfl, by omega, O0, BE⟩
      case round =>
        obtain ⟨k, rfl, hk, ow6, be6⟩ := hrel
        clear O0 BE
        have Z6 := be6.size
        have LW := bstep bel Z be6
        have y0 : wr.cell? ⟨w.heap.size, 0, none⟩ = some (.slice (some ⟨g, o, none⟩) O.length c0) := by rw [LW.cell bl]; exact bx0
        have y1 : wr.cell? ⟨w.heap.size, 1, none⟩ = some (.slice (some ⟨g1, o1, none⟩) W.length c1) := by rw [LW.cell bl]; exact bx1
        have y2 : wr.cell? ⟨g, o + i, none⟩ = some (.int .i64 (m : Int)) := by rw [LW.cell hgO]; exact hcO
        have y3 : wr.cell? ⟨g1, o1 + i, none⟩ = some (.slice B1 x.length d1) := by rw [LW.cell hg1]; exact hc1
        by_cases hlk : k < m
        · have k0 : (k : Int) < (m : Int) := by omega
          have ow := ow6.out
          have hrl : (List.replicate k ((i : Int) + 1)).length ≤ 7 := by rw [List.length_replicate]; omega
          have HSK : Hid (List.replicate (k + 1) ((i : Int) + 1) = List.replicate k ((i : Int) + 1) ++ [(i : Int) + 1]) := Lib.hid List.replicate_succ'
          clear ow6
          generalize List.replicate k ((i : Int) + 1) = os at *
          have HBl := Lib.hid ow.base_le
          go_wp2_with (first | (at_builtin; refine wpList_append_own_at _ rfl (.tmp 30) (.tmp 33) 22 rfl wo.heap.size 2 iT (.int .i64 0) 1 8 Try.underlying22 hiT hz0 hz1 hz2 rfl (by decide) _ _ _ rfl (ow.alloc _) ⟨_, 0, none⟩ 1 1 [.int .i64 ((i : Int) + 1)] rfl rfl (cell_one_new _ _ _) (by simp [Value.oneCell']) (by unfold maxLen; omega) (by omega) (by go_size) ?_; intro v1 w1 hown1 hgrow1 _ hat1))
          obtain ⟨p1, p2⟩ := push_post ow be6 hown1 hgrow1
          have P1 : Hid (OwnI w1 wo.heap.size v1 (List.replicate (k + 1) ((i : Int) + 1))) := Lib.hid (by rw [HSK.out]; exact p1)
          go_wp2_with (fail)
          exact ⟨⟨k + 1, by go_num, by omega, P1, p2⟩, by simp [intOf]; omega⟩
        · have hge : ¬ ((k : Int) < (m : Int)) := by omega
          obtain rfl : k = m := by omega
          have HWD := Lib.hid (sWord7_any B1 d1 x wr (HRX.out.below' LW) (by omega) HXB.out)
          have hwl := Num.wrd_len HXB.out
          have HSM := Lib.hid (Num.wrd_small hx6)
          go_wp2_with (fail)
          refine HWD.out.mono ?_; rintro e w4 ⟨u4, rfl, ow4, hb4⟩
          obtain ⟨A4, n4, c4, rfl, e4⟩ := ow4.formN
          have HIV := Lib.hid (sInvert_any A4 n4 c4 (Num.wrd x) w4 ow4.reads e4 (by omega) HSM.out)
          have OL4 := ow6.out.below hb4
          have L4 := bstep be6 be6.size hb4
          clear ow4 hb4 HWD
          go_wp2_with (fail)
          refine HIV.out.mono ?_; rintro e w5 ⟨u5, rfl, ow5, hb5⟩
          obtain ⟨A5, n5, c5, rfl, e5⟩ := ow5.formN
          have OL5 := OL4.below hb5
          have L5 := bstep L4 L4.size hb5
          have HR5 := ow5.reads
          have HBl := Lib.hid OL5.base_le
          have HLL : Hid ((List.replicate k ((i : Int) + 1)).length ≤ 7) := Lib.hid (by rw [List.length_replicate]; omega)
          clear HIV ow5 hb5 OL4 L4 ow6 y0 y1 y2 y3 LW be6 Z6
          go_wp2_with (first | (at_builtin; refine wpList_app_ints _ rfl _ _ rfl wo.heap.size _ (List.replicate k ((i : Int) + 1)) (Num.invW (Num.wrd x)) rfl OL5 A5 n5 c5 e5 rfl HR5 (by rw [Num.invW_len]; have := HLL.out; omega) L5.size ?_; intro v6 w6 own6 gr6 at6; have L6 := L5.grown gr6 L5.size HBl.out; obtain ⟨A6, n6, c6, rfl, e6⟩ := own6.formN; have HPA := spII.own_below own.out L6; have HPB := apart_row own.out own6; have HPC := spI_of own6; have HPL : out.length ≤ 1000000 := (by have := HLN.out; omega)) | (at_builtin; refine wpList_push (s := spI) (nul := []) w6 rfl _ _ 23 22 rfl Try.underlying23 infoII S (fun k => (Value.slice A6 n6 c6).ownBlock = some k) _ (.slice A6 n6 c6) out (List.replicate k ((i : Int) + 1) ++ Num.invW (Num.wrd x)) rfl rfl HPA HPC rfl HPB HPL ?_; intro v7 w7 S7 own7 hS7 ch7 fm7))
          have HO7 : Hid (spII.own w7 S7 v7 ((Num.relsP O W (i + 1)).map Num.relW)) := Lib.hid (by rw [HST.out]; exact own7)
          have L7 := bstepS (bstep bel Z L6) (bstep bel Z L6).size hS.out ch7
          have HS7 : Hid (∀ k, S7 k → W0.heap.size ≤ k) := Lib.hid fun q hq => by
            rcases hS7 q hq with h | h | h
            · exact hS.out q h
            · have := own6.base_le q h; omega
            · have := (bstep bel Z L6).size; omega
          go_wp2_with (fail)
          exact ⟨⟨i + 1, S7, by go_num, by omega, HO7, HS7, L7⟩, by simp [intOf]; omega⟩
    · have hge : ¬ ((i : Int) < (O.length : Int)) := by omega
      obtain rfl : i = O.length := by omega
      go_wp2_with (fail)
      have own0 : Hid (spII.own wr S u3 ((Num.relsP O W O.length ++ Num.relsC O J 0).map Num.relW)) := Lib.hid (by rw [Num.relsC, List.append_nil]; exact own.out)
      have hS0 := hS
      have bel0 := bel
      clear own hS bel
      go_loopw [3, 8] (fun s3 s8 wr => ∃ (i : Nat) (S : Nat → Prop), s8 = .int .i64 i ∧ i ≤ O.length ∧ Hid (spII.own wr S s3 ((Num.relsP O W O.length ++ Num.relsC O J i).map Num.relW)) ∧ Hid (∀ k, S k → W0.heap.size ≤ k) ∧ Below W0.heap.size W0 wr) (fun _ s8 _ => O.length - (intOf s8).toNat)
      case atStart => exact ⟨0, S, rfl, by omega, own0, hS0, bel0⟩
      case round =>
        clear own0 hS0 bel0 hlt hge hi
        obtain ⟨i, S, rfl, hi, own, hS, bel⟩ := hrel
        by_cases hlt : i < O.length
        · have i0 : (0 : Int) ≤ (i : Int) := by omega
          have i1 : (i : Int) < (O.length : Int) := by omega
          have i2 : (i : Int) < (J.length : Int) := by omega
          have hw1 : IntKind.i64.wrap ((i : Int) + 1) = (i : Int) + 1 := IntWalk.i64_in _ (by omega)
          have hw2 : IntKind.i64.wrap (-(i : Int)) = -(i : Int) := IntWalk.i64_in _ (by omega)
          have hw3 : IntKind.i64.wrap (-(i : Int) - 1) = -(i : Int) - 1 := IntWalk.i64_in _ (by omega)
          obtain ⟨g2, o2, B2, d2, eA2, hg2, hc2, hl2, hr2⟩ := HJ.out i (by omega)
          obtain ⟨hrl, hrf⟩ := HJF.out i hlt
          have HST : Hid (Num.relsC O J (i + 1) = Num.relsC O J i ++ Num.relsK (J.getD i []) i (O.getD i 0) (J.getD i []).length) := Lib.hid rfl
          have hlc : (Num.relsC O J i).length ≤ 6 * i := Num.relsC_len fun j hj => by have := (HJF.out j (by omega)).1; omega
          generalize J.getD i [] = r at *
          generalize O.getD i 0 = y at *
          subst eA2
          have HR2 := Lib.hid hr2
          have HRF := Lib.hid hrf
          have O0 : Hid (spII.own wr S u3 ((Num.relsP O W O.length ++ Num.relsC O J i).map Num.relW ++ (Num.relsK r i y 0).map Num.relW)) := Lib.hid (by rw [Num.relsK, List.map_nil, List.append_nil]; exact own.out)
          have bel0 := bel
          have hS0 := hS
          clear hr2 hrf own bel hS
          go_wp2_with (fail)
          go_loopw [3, 9] (fun s3 s9 wr => ∃ (k : Nat) (S : Nat → Prop), s9 = .int .i64 ((i : Int) + 1 + (k : Int)) ∧ k ≤ r.length ∧ Hid (spII.own wr S s3 ((Num.relsP O W O.length ++ Num.relsC O J i).map Num.relW ++ (Num.relsK r i y k).map Num.relW)) ∧ Hid (∀ k, S k → W0.heap.size ≤ k) ∧ Below W0.heap.size W0 wr) (fun _ s9 _ => O.length - (intOf s9).toNat)
          case atStart => exact ⟨0, S, by simp, by omega, O0, hS0, bel0⟩
          case round =>
            clear O0 bel0 hS0
            obtain ⟨k, S, rfl, hk, own, hS, bel⟩ := hrel
            have Z := bel.size
            by_cases hlk : k < r.length
            · obtain ⟨g3, o3, B3, d3, eB2, hg3, hc3, hl3, hr3⟩ := HR2.out k hlk
              obtain ⟨hz6, hzb⟩ := HRF.out k hlk
              subst eB2
              have y2 : wr.cell? ⟨w.heap.size, 2, none⟩ = some (.slice (some ⟨g2, o2, none⟩) J.length c2) := by rw [bel.cell bl]; exact bx2
              have y3 : wr.cell? ⟨g2, o2 + i, none⟩ = some (.slice (some ⟨g3, o3, none⟩) r.length d2) := by rw [bel.cell hg2]; exact hc2
              have y4 : wr.cell? ⟨g3, o3 + k, none⟩ = some (.slice B3 (r.getD k []).length d3) := by rw [bel.cell hg3]; exact hc3
              have k1 : (i : Int) + 1 + (k : Int) < (O.length : Int) := by omega
              have k2 : IntKind.i64.wrap ((i : Int) + 1 + (k : Int) + 1) = (i : Int) + 1 + (k : Int) + 1 := IntWalk.i64_in _ (by omega)
              have k3 : IntKind.i64.wrap ((i : Int) + 1 + (k : Int) - (i : Int)) = (k : Int) + 1 := by rw [show (i : Int) + 1 + (k : Int) - (i : Int) = (k : Int) + 1 by omega]; exact IntWalk.i64_in _ (by omega)
              have k4 : IntKind.i64.wrap ((k : Int) + 1 - 1) = (k : Int) := by rw [show (k : Int) + 1 - 1 = (k : Int) by omega]; exact IntWalk.i64_in _ (by omega)
              have k5 : IntKind.i64.wrap (k : Int) = (k : Int) := IntWalk.i64_in _ (by omega)
              have k6 : (0 : Int) ≤ (k : Int) := by omega
              have k7 : (k : Int) < (r.length : Int) := by omega
              have HSK := Lib.hid (rels_con r i y k)
              have hln : ((Num.relsP O W O.length ++ Num.relsC O J i).map Num.relW ++ (Num.relsK r i y k).map Num.relW).length ≤ 1000 := by rw [List.length_append, List.length_map, List.length_map, List.length_append, Num.relsP_len, Num.relsK_len]; omega
              have HRX := Lib.hid hr3
              have HXB := Lib.hid hzb
              clear hr3 hzb hc3
              generalize r.getD k [] = x at *
              have OL0 := Lib.hid (OwnI.lit wr [-(i : Int) - 1, (i : Int) + 1 + (k : Int) + 1, (i : Int) + 1] (Nat.le_refl _) (by simp))
              have BE : Below wr.heap.size wr (wr.alloc (.cells #[.int .i64 (-(i : Int) - 1), .int .i64 ((i : Int) + 1 + (k : Int) + 1), .int .i64 ((i : Int) + 1)] 2)) := by go_grown
              have HWD := Lib.hid (sWord7_any B3 d3 x (wr.alloc (.cells #[.int .i64 (-(i : Int) - 1), .int .i64 ((i : Int) + 1 + (k : Int) + 1), .int .i64 ((i : Int) + 1)] 2)) (HRX.out.below' (bstep bel Z BE)) (by omega) HXB.out)
              have hwl := Num.wrd_len HXB.out
              have HSM := Lib.hid (Num.wrd_small hz6)
              have ty : w.heap.size < wr.heap.size := Nat.lt_of_lt_of_le bl Z
              have tg2 : g2 < wr.heap.size := Nat.lt_of_lt_of_le hg2 Z
              have tg3 : g3 < wr.heap.size := Nat.lt_of_lt_of_le hg3 Z
              generalize hOUT : (Num.relsP O W O.length ++ Num.relsC O J i).map Num.relW ++ (Num.relsK r i y k).map Num.relW = out at *
              have HOUT := Lib.hid hOUT
              clear hOUT
              go_wp2_with (fail)
              refine HWD.out.mono ?_; rintro e w4 ⟨u4, rfl, ow4, hb4⟩
              obtain ⟨A4, n4, c4, rfl, e4⟩ := ow4.formN
              have HIV := Lib.hid (sInvert_any A4 n4 c4 (Num.wrd x) w4 ow4.reads e4 (by omega) HSM.out)
              have OL4 := OL0.out.below hb4
              have L4 := bstep BE BE.size hb4
              clear ow4 hb4 HWD OL0 BE y2 y3 y4
              go_wp2_with (fail)
              refine HIV.out.mono ?_; rintro e w5 ⟨u5, rfl, ow5, hb5⟩
              obtain ⟨A5, n5, c5, rfl, e5⟩ := ow5.formN
              have OL5 := OL4.below hb5
              have L5 := bstep L4 L4.size hb5
              have HR5 := ow5.reads
              have HBl := Lib.hid OL5.base_le
              clear HIV ow5 hb5 OL4 L4
              go_wp2_with (first | (at_builtin; refine wpList_app_ints _ rfl _ _ rfl wr.heap.size _ [-(i : Int) - 1, (i : Int) + 1 + (k : Int) + 1, (i : Int) + 1] (Num.invW (Num.wrd x)) rfl OL5 A5 n5 c5 e5 rfl HR5 (by rw [Num.invW_len]; simp; omega) L5.size ?_; intro v6 w6 own6 gr6 at6; have L6 := L5.grown gr6 L5.size HBl.out; obtain ⟨A6, n6, c6, rfl, e6⟩ := own6.formN; have HPA := spII.own_below own.out L6; have HPB := apart_row own.out own6; have HPC := spI_of own6; have HPL : out.length ≤ 1000000 := (by omega)) | (at_builtin; refine wpList_push (s := spI) (nul := []) w6 rfl _ _ 23 22 rfl Try.underlying23 infoII S (fun k => (Value.slice A6 n6 c6).ownBlock = some k) _ (.slice A6 n6 c6) out ([-(i : Int) - 1, (i : Int) + 1 + (k : Int) + 1, (i : Int) + 1] ++ Num.invW (Num.wrd x)) rfl rfl HPA HPC rfl HPB HPL ?_; intro v7 w7 S7 own7 hS7 ch7 fm7))
              have HO7 : Hid (spII.own w7 S7 v7 ((Num.relsP O W O.length ++ Num.relsC O J i).map Num.relW ++ (Num.relsK r i y (k + 1)).map Num.relW)) := Lib.hid (by rw [HSK.out, ← List.append_assoc, HOUT.out]; exact own7)
              have L7 := bstepS (bstep bel Z L6) (bstep bel Z L6).size hS.out ch7
              have HS7 : Hid (∀ k, S7 k → W0.heap.size ≤ k) := Lib.hid fun q hq => by
                rcases hS7 q hq with h | h | h
                · exact hS.out q h
                · have := own6.base_le q h; omega
                · have := (bstep bel Z L6).size; omega
              go_wp2_with (fail)
              exact ⟨⟨k + 1, S7, by first | (congr 1; omega) | (simp; omega), by omega, HO7, HS7, L7⟩, by simp [intOf]; omega⟩
            · have hge : ¬ ((i : Int) + 1 + (k : Int) < (O.length : Int)) := by omega
              obtain rfl : k = r.length := by omega
              have O1 : Hid (spII.own wr S u3 ((Num.relsP O W O.length ++ Num.relsC O J (i + 1)).map Num.relW)) := Lib.hid (by rw [HST.out, ← List.append_assoc, List.map_append]; exact own.out)
              go_wp2_with (fail)
              exact ⟨⟨i + 1, S, by go_num, by omega, O1, hS, bel⟩, by simp [intOf]; omega⟩
        · have hge : ¬ ((i : Int) < (O.length : Int)) := by omega
          obtain rfl : i = O.length := by omega
          go_wp2_with (fail)
          go_ret
          exact Made.of rfl own.out (fun k hk => by have := hS.out k hk; have := b0.size; omega) (bstep b0 b0.size bel)
end Go.Proofs.Ytncpngmplddbkaa
