/- The model's l05From: the products of the last powers of each prime, again and again. -/
import Derived.Test.YtpplojbcjgiabaaL07L
import Derived.Test.YtpplojbcjgiabaaL07J
import Derived.Test.YtpplojbcjgiabaaNumAp
import Derived.RangeFuncBox
namespace Go.Proofs.Ytpplojbcjgiabaa
open Go.RowKit
set_option linter.unusedVariables false
set_option linter.unusedSimpArgs false

/-! ### Arithmetic -/
namespace Num
def FPass (T : List Int) (i : Nat) (P : Int) (R : List Int) : Prop := prodZ (lastsL T) = P * prodZ (lastsL (T.drop i)) ∧ restL T = R ++ restL (T.drop i) ∧ 1 ≤ P ∧ P ≤ 1000000 ∧ R.length ≤ i
theorem fPass_start (T : List Int) : FPass T 0 1 [] := ⟨by simp, by simp, by decide, by decide, by simp⟩
theorem drop_two {T : List Int} {i : Nat} (h : i + 1 < T.length) : T.drop i = T.getD i 0 :: T.getD (i + 1) 0 :: T.drop (i + 2) := by
  rw [List.drop_eq_getElem_cons (by omega), List.drop_eq_getElem_cons h]
  have e1 : T.getD i 0 = T[i] := by rw [List.getD_eq_getElem?_getD, List.getElem?_eq_getElem (by omega)]; rfl
  have e2 : T.getD (i + 1) 0 = T[i + 1] := by rw [List.getD_eq_getElem?_getD, List.getElem?_eq_getElem h]; rfl
  rw [e1, e2]
theorem drop_one' {T : List Int} {i : Nat} (h : i < T.length) : T.drop i = T.getD i 0 :: T.drop (i + 1) := by
  rw [List.drop_eq_getElem_cons h]
  have e1 : T.getD i 0 = T[i] := by rw [List.getD_eq_getElem?_getD, List.getElem?_eq_getElem h]; rfl
  rw [e1]
theorem lasts_same {T : List Int} {i : Nat} (h : i + 1 < T.length) (hb : baseN (T.getD i 0) = baseN (T.getD (i + 1) 0)) : lastsL (T.drop i) = lastsL (T.drop (i + 1)) ∧ restL (T.drop i) = T.getD i 0 :: restL (T.drop (i + 1)) := by
  rw [drop_two h, lastsL, restL, if_pos hb, if_pos hb, drop_one' h]
  exact ⟨rfl, rfl⟩
theorem lasts_diff' {T : List Int} {i : Nat} (h : i < T.length) (hb : i + 1 < T.length → baseN (T.getD i 0) ≠ baseN (T.getD (i + 1) 0)) : lastsL (T.drop i) = T.getD i 0 :: lastsL (T.drop (i + 1)) ∧ restL (T.drop i) = restL (T.drop (i + 1)) := by
  by_cases h2 : i + 1 < T.length
  · rw [drop_two h2, lastsL, restL, if_neg (hb h2), if_neg (hb h2), drop_one' h2]
    exact ⟨rfl, rfl⟩
  · rw [drop_one' h, List.drop_eq_nil_of_le (show T.length ≤ i + 1 by omega)]
    exact ⟨rfl, rfl⟩
theorem fPass_same {T R : List Int} {i : Nat} {P : Int} (hp : FPass T i P R) (h : i + 1 < T.length) (hb : baseN (T.getD i 0) = baseN (T.getD (i + 1) 0)) : FPass T (i + 1) P (R ++ [T.getD i 0]) := by
  obtain ⟨h1, h2, h3, h4, h5⟩ := hp
  obtain ⟨e1, e2⟩ := lasts_same h hb
  exact ⟨by rw [h1, e1], by rw [h2, e2]; simp, h3, h4, by simp; omega⟩
theorem fPass_diff {T R : List Int} {i : Nat} {P : Int} (hp : FPass T i P R) (h : i < T.length) (hb : i + 1 < T.length → baseN (T.getD i 0) ≠ baseN (T.getD (i + 1) 0)) (h1 : 1 ≤ T.getD i 0) (hle : P * T.getD i 0 ≤ 1000000) : FPass T (i + 1) (P * T.getD i 0) R := by
  obtain ⟨p1, p2, p3, p4, p5⟩ := hp
  obtain ⟨e1, e2⟩ := lasts_diff' h hb
  refine ⟨by rw [p1, e1, prodZ, Int.mul_assoc], by rw [p2, e2], ?_, hle, by omega⟩
  have := Int.mul_le_mul p3 h1 (by decide) (by omega)
  omega
theorem fPass_over {T R : List Int} {i : Nat} {P : Int} (hp : FPass T i P R) (h : i < T.length) (hb : i + 1 < T.length → baseN (T.getD i 0) ≠ baseN (T.getD (i + 1) 0)) (hT : ∀ z ∈ T, 1 ≤ z) (hgt : 1000000 < P * T.getD i 0) : 1000000 < prodZ (lastsL T) := by
  obtain ⟨p1, p2, p3, p4, p5⟩ := hp
  obtain ⟨e1, e2⟩ := lasts_diff' h hb
  rw [p1, e1, prodZ, ← Int.mul_assoc]
  have hpos : 1 ≤ prodZ (lastsL (T.drop (i + 1))) := prodZ_pos fun x hx => hT x (List.mem_of_mem_drop ((lasts_sub _).subset hx))
  have := Int.mul_le_mul (Int.le_refl (P * T.getD i 0)) hpos (by decide) (by omega)
  omega
theorem fPass_end {T R : List Int} {P : Int} (hp : FPass T T.length P R) : prodZ (lastsL T) = P ∧ restL T = R := by
  obtain ⟨p1, p2, -⟩ := hp
  rw [List.drop_eq_nil_of_le (Nat.le_refl _)] at p1 p2
  exact ⟨by rw [p1]; simp [lastsL, prodZ], by rw [p2]; simp [restL]⟩
theorem quo_gt {P z : Int} (h1 : 1 ≤ P) : 1000000 / P < z ↔ 1000000 < P * z := by
  rw [Int.ediv_lt_iff_lt_mul (by omega), Int.mul_comm]
structure FInv (S T G : List Int) : Prop where
  eq : fromS S = G.reverse ++ fromS T
  small : ∀ g ∈ G, g ≤ 1000000
  sorted : T.Pairwise leP
  good : ∀ z ∈ T, PPow z ∧ z ≤ 1000000
  len : G.length + T.length ≤ S.length
theorem fInv_start {S : List Int} (h1 : S.Pairwise leP) (h2 : ∀ z ∈ S, PPow z ∧ z ≤ 1000000) : FInv S S [] := ⟨by simp, by simp, h1, h2, by simp⟩
theorem fInv_step {S T G : List Int} (h : FInv S T G) (hT : T ≠ []) (hle : prodZ (lastsL T) ≤ 1000000) : FInv S (restL T) (prodZ (lastsL T) :: G) := by
  refine ⟨by rw [h.eq, fromS_step hT]; simp, fun g hg => ?_, h.sorted.sublist (rest_sub T), fun z hz => h.good z ((rest_sub T).subset hz), ?_⟩
  · rcases List.mem_cons.mp hg with rfl | hg
    · exact hle
    · exact h.small g hg
  · have := rest_len T hT
    have := h.len
    simp
    omega
theorem fInv_end {S G : List Int} (h : FInv S [] G) : G = (fromS S).reverse ∧ ∀ f ∈ fromS S, f ≤ 1000000 := by
  have e := h.eq
  rw [fromS_nil, List.append_nil] at e
  refine ⟨by rw [e, List.reverse_reverse], fun f hf => h.small f ?_⟩
  rw [e] at hf
  simpa using hf
theorem fInv_over {S T G : List Int} (h : FInv S T G) (hT : T ≠ []) (hgt : 1000000 < prodZ (lastsL T)) : ¬ ∀ f ∈ fromS S, f ≤ 1000000 := fun hh => by
  have := hh (prodZ (lastsL T)) (by rw [h.eq, fromS_step hT]; simp)
  omega
end Num

/-! ### The walk -/
theorem OwnI.news {w : World} {base g n c : Nat} {xs : List Int} (h : OwnI w base (.slice (some ⟨g, 0, none⟩) n c) xs) : ∀ j u, (xs.map (Value.int .i64))[j]? = some u → w.cell? ((⟨g, 0, none⟩ : Addr).add j) = some u := fun j u hj => by
  rw [List.getElem?_map] at hj
  have hl : j < xs.length := by
    by_cases hl : j < xs.length
    · exact hl
    · rw [List.getElem?_eq_none (by omega)] at hj; cases hj
  obtain ⟨hc, -⟩ := h.at_ j hl
  rw [List.getElem?_eq_getElem hl] at hj
  simp only [Option.map_some, Option.some.injEq] at hj
  rw [Addr.add_lit, Nat.zero_add, hc, ← hj]
  simp [hl]
def lenV : Value → Nat
  | .slice _ n _ => n
  | _ => 0
/-- What l05From leaves. -/
def FromOf (xs : List Int) (w : World) (e : Ending) (w' : World) : Prop :=
  ∃ S, S.Perm xs ∧ S.Pairwise Num.leP ∧ (((∀ f ∈ Num.fromS S, f ≤ 1000000) ∧ ∃ u, e = .returned (.tuple #[u, .bool true]) ∧ OwnI w' w.heap.size u (Num.fromS S).reverse ∧ Below w.heap.size w w') ∨
    ((¬ ∀ f ∈ Num.fromS S, f ≤ 1000000) ∧ e = .returned (.tuple #[.slice none 0 0, .bool false]) ∧ Below w.heap.size w w'))
set_option maxRecDepth 100000 in
set_option maxHeartbeats 4000000 in
theorem sFrom_any (v : Value) (xs : List Int) (w : World) (h : spI.rd w v xs) (hl : xs.length ≤ 1000) (hs : ∀ x ∈ xs, Num.PPow x ∧ x ≤ 1000000) : Calls Try.prog 53 #[v] w (FromOf xs w) := by
  obtain ⟨i0, hi, hz0, hz1, hz2⟩ := info_parts infoI
  have HC := Lib.hid (sSorted_any v xs w h hl (fun x hx => (hs x hx).2))
  go_enter Try.func53, Try.ntmps53
  go_wp2_with (fail)
  refine HC.out.mono ?_; rintro e w1 ⟨S, u, rfl, hp, hsrt, ho, hb⟩
  have HPM := Lib.hid hp
  have HSR := Lib.hid hsrt
  have hSl : S.length = xs.length := hp.length_eq
  have HI0 := Lib.hid (Num.fInv_start hsrt (fun z hz => hs z (hp.subset hz)))
  have HO0 := Lib.hid ho
  have hz1' := hb.size
  have lit : OwnI (w1.alloc (.cells #[] 2)) w.heap.size (.slice (some ⟨w1.heap.size, 0, none⟩) 0 0) [] := World.ownsRow_lit w1 #[] 0 hz1' (by unfold maxLen; omega) rfl
  have HL0 := Lib.hid lit
  have L1 := hb.alloc hz1' (.cells #[] 2)
  clear HC hp hsrt ho lit hs
  go_wp2_with (fail)
  go_loopw [4, 5] (fun s4 s5 wr => ∃ (T G : List Int) (A4 : Option Addr) (c4 g5 c5 : Nat), s4 = .slice A4 T.length c4 ∧ s5 = .slice (some ⟨g5, 0, none⟩) G.length c5 ∧ Hid (Num.FInv S T G) ∧ Hid (OwnI wr w.heap.size (.slice A4 T.length c4) T) ∧ Hid (OwnI wr w.heap.size (.slice (some ⟨g5, 0, none⟩) G.length c5) G) ∧ Below w.heap.size w wr) (fun s4 _ _ => lenV s4)
  case atStart =>
    obtain ⟨A4, c4, rfl⟩ := HO0.out.form
    exact ⟨S, [], A4, c4, _, _, rfl, rfl, HI0, Lib.hid (HO0.out.alloc _), HL0, L1⟩
  case round =>
    obtain ⟨T, G, A4, c4, g5, c5, rfl, rfl, HI, HO4, HO5, bw⟩ := hrel
    clear HI0 HO0 HL0 L1 hb hz1'
    have bws := bw.size
    by_cases hT : T = []
    · subst hT
      have HE := Lib.hid (Num.fInv_end HI.out)
      clear HI
      go_wp2_with (fail)
      refine bodyPost_ret (v := .tuple #[.slice (some ⟨g5, 0, none⟩) G.length c5, .bool true]) (by simp [results, Try.results53, go_sem]) rfl ?_
      exact ⟨S, HPM.out, HSR.out, .inl ⟨HE.out.2, _, rfl, by rw [← HE.out.1]; exact HO5.out, bw⟩⟩
    · have hTl : 0 < T.length := by
        cases T with
        | nil => exact absurd rfl hT
        | cons z t => simp
      have t1 : (0 : Int) < (T.length : Int) := by omega
      have TL := HI.out.len
      have HP0 := Lib.hid (Num.fPass_start T)
      have HGD : Hid (∀ j, j < T.length → 2 ≤ T.getD j 0 ∧ T.getD j 0 ≤ 1000000) := Lib.hid fun j hj => by
        have hm : T.getD j 0 ∈ T := by rw [List.getD_eq_getElem?_getD, List.getElem?_eq_getElem hj]; exact List.getElem_mem hj
        have := HI.out.good _ hm
        exact ⟨this.1.two, this.2⟩
      have HOV : Hid (1000000 < Num.prodZ (Num.lastsL T) → ¬ ∀ f ∈ Num.fromS S, f ≤ 1000000) := Lib.hid fun hgt => Num.fInv_over HI.out hT hgt
      have HST : Hid (∀ P R, Num.FPass T T.length P R → Num.FInv S R (P :: G) ∧ R.length < T.length) := Lib.hid fun P R hp => by
        obtain ⟨e1, e2⟩ := Num.fPass_end hp
        have h1 := Num.fInv_step HI.out hT (by rw [e1]; exact hp.2.2.2.1)
        rw [e1, e2] at h1
        have h2 := Num.rest_len T hT
        rw [e2] at h2
        exact ⟨h1, h2⟩
      have HFO : Hid (∀ i P R, Num.FPass T i P R → i < T.length → (i + 1 < T.length → Num.baseN (T.getD i 0) ≠ Num.baseN (T.getD (i + 1) 0)) → 1000000 < P * T.getD i 0 → 1000000 < Num.prodZ (Num.lastsL T)) := Lib.hid fun i P R hp hi hb hgt => Num.fPass_over hp hi hb (fun z hz => by have := (HI.out.good z hz).1.two; omega) hgt
      have litR : OwnI (wr.alloc (.cells #[] 2)) wr.heap.size (.slice (some ⟨wr.heap.size, 0, none⟩) 0 0) [] := World.ownsRow_lit wr #[] 0 (Nat.le_refl _) (by unfold maxLen; omega) rfl
      have HLR := Lib.hid litR
      have bR : Below wr.heap.size wr (wr.alloc (.cells #[] 2)) := (Below.refl _ _).alloc (Nat.le_refl _) _
      clear HI litR
      go_wp2_with (fail)
      generalize wr = W0 at *
      go_loopw [6, 7, 8] (fun s6 s7 s8 wq => ∃ (i : Nat) (P : Int) (R : List Int) (g7 c7 n : Nat) (W1 : World), wq = W1.drewN n ∧ s8 = .int .i64 i ∧ s6 = .int .i64 P ∧ s7 = .slice (some ⟨g7, 0, none⟩) R.length c7 ∧ i ≤ T.length ∧ Hid (Num.FPass T i P R) ∧ Hid (OwnI W1 W0.heap.size (.slice (some ⟨g7, 0, none⟩) R.length c7) R) ∧ Below W0.heap.size W0 W1) (fun _ _ s8 _ => T.length - (intOf s8).toNat)
      case atStart => exact ⟨0, 1, [], _, _, 0, _, rfl, rfl, rfl, rfl, by omega, HP0, HLR, bR⟩
      case round =>
        obtain ⟨i, P, R, g7, c7, n, W1, rfl, rfl, rfl, rfl, hi7, HP, HO7, bq⟩ := hrel
        clear HLR bR HP0
        have bqs := bq.size
        obtain ⟨-, -, P1, P2, RL⟩ := HP.out
        by_cases hlt : i < T.length
        · have k0 : (0 : Int) ≤ (i : Int) := by omega
          have k1 : (i : Int) < (T.length : Int) := by omega
          have HT1 := Lib.hid (HO4.out.below (bq.mono (Nat.le_refl _)))
          obtain ⟨g4, rfl, hg4, hb4⟩ := HT1.out.first (by omega)
          obtain ⟨hc, -⟩ := HT1.out.at_ i hlt
          obtain ⟨x1, x2⟩ := HGD.out i hlt
          have HB1 : Hid (∀ W, Calls Try.prog 71 #[.int .i64 (T.getD i 0)] W fun e w' => e = .returned (.int .i64 (Num.baseN (T.getD i 0))) ∧ W = w') := Lib.hid fun W => sBase_any _ W x2
          have qq := Num.quo_gt (P := P) (z := T.getD i 0) P1
          have pb0 : 0 ≤ P * T.getD i 0 := Int.mul_nonneg (by omega) (by omega)
          have pb1 : P * T.getD i 0 ≤ 1000000000000 := by have := Int.mul_le_mul P2 x2 (by omega) (by decide); omega
          have HFX := Lib.hid (HFO.out i P R HP.out hlt)
          have HDF := Lib.hid (fun hb hle => Num.fPass_diff HP.out hlt hb (by omega) hle)
          have tq : Int.tdiv 1000000 P = 1000000 / P := Int.tdiv_eq_ediv_of_nonneg (by decide)
          have tq0 : 0 ≤ 1000000 / P := Int.ediv_nonneg (by decide) (by omega)
          have tq1 : 1000000 / P ≤ 1000000 := by have := Int.ediv_le_self (b := P) (a := 1000000) (by decide); omega
          have tw : IntKind.i64.wrap (1000000 / P) = 1000000 / P := IntWalk.i64_in _ (by omega)
          have pw : IntKind.i64.wrap (P * T.getD i 0) = P * T.getD i 0 := IntWalk.i64_in _ (by omega)
          have pn : P ≠ 0 := by omega
          have k2 : IntKind.i64.wrap ((i : Int) + 1) = (i : Int) + 1 := IntWalk.i64_in _ (by omega)
          have HB7 := Lib.hid HO7.out.base_le
          by_cases hnx : i + 1 < T.length
          · have k3 : (i : Int) + 1 < (T.length : Int) := by omega
            have k4 : (0 : Int) ≤ (i : Int) + 1 := by omega
            have k5 : ((i : Int) + 1).toNat = i + 1 := by omega
            obtain ⟨hc2, -⟩ := HT1.out.at_ (i + 1) hnx
            have x3 := (HGD.out (i + 1) hnx).2
            have HB2 : Hid (∀ W, Calls Try.prog 71 #[.int .i64 (T.getD (i + 1) 0)] W fun e w' => e = .returned (.int .i64 (Num.baseN (T.getD (i + 1) 0))) ∧ W = w') := Lib.hid fun W => sBase_any _ W x3
            by_cases hbe : Num.baseN (T.getD i 0) = Num.baseN (T.getD (i + 1) 0)
            · have HN := Lib.hid (Num.fPass_same HP.out hnx hbe)
              rw [hbe] at HB1
              clear HDF HFX qq hbe tq tw pw HP
              generalize Num.baseN (T.getD (i + 1) 0) = b at *
              generalize T.getD (i + 1) 0 = Y at *
              generalize T.getD i 0 = X at *
              go_wp2_with (fail)
              go_quiet ((go_at_call 71; first | (with_reducible exact quiet_more fun W hW => HB1.out W) | (with_reducible exact quiet_more fun W hW => HB2.out W)))
              have HO7b := Lib.hid ((HO7.out.drewN n).drewN nq)
              have bqb := below_drewN (below_drewN bq n) nq
              have hcb : ((W1.drewN n).drewN nq).cell? ⟨g4, i, none⟩ = some (.int .i64 X) := hc
              clear HO7 bq hc bqs HT1
              have bqs := bqb.size
              generalize (W1.drewN n).drewN nq = W2 at *
              go_wp2_with (first | (at_builtin; refine wpList_append_own_at _ rfl (.tmp 41) (.tmp 46) 24 rfl W0.heap.size 2 i0 (.int .i64 0) 1 8 Try.underlying24 hi hz0 hz1 hz2 rfl (by decide) _ _ _ rfl (HO7b.out.alloc _) ⟨_, 0, none⟩ 1 1 [.int .i64 X] rfl rfl (cell_one_new _ _ _) (by simp [Value.oneCell']) (by unfold maxLen; omega) (by omega) (by simp; omega) ?_; intro v3 w3 own3 gr3 _ at3; obtain ⟨g3, c3, rfl⟩ := ownsRow_succ own3; replace gr3 : (W2.alloc (.cells #[.int .i64 X] 2)).grownBy w3 (Value.slice (some ⟨g7, 0, none⟩) R.length c7).ownBlock := gr3))
              have bq3 := (bqb.alloc (by omega) (.cells #[.int .i64 X] 2)).grown gr3 (by simp; omega) (fun k hk => by have := HB7.out k hk; omega)
              have HO8 : Hid (OwnI w3 W0.heap.size (.slice (some ⟨g3, 0, none⟩) (R ++ [X]).length c3) (R ++ [X])) := Lib.hid (by
                have := OwnI.snoc own3
                simpa using this)
              exact ⟨⟨i + 1, P, R ++ [X], g3, c3, 0, w3, rfl, by go_num, rfl, by simp, by omega, HN, HO8, bq3⟩, by simp [intOf]; omega⟩
            · have hbf : (Num.baseN (T.getD i 0) == Num.baseN (T.getD (i + 1) 0)) = false := by simpa using hbe
              have HFX2 := Lib.hid (HFX.out (fun _ => hbe))
              have HDF2 := Lib.hid (HDF.out (fun _ => hbe))
              clear HDF HFX hbe HP
              generalize Num.baseN (T.getD i 0) = b1 at *
              generalize Num.baseN (T.getD (i + 1) 0) = b2 at *
              generalize T.getD (i + 1) 0 = Y at *
              generalize T.getD i 0 = X at *
              by_cases hov : 1000000 < P * X
              · have ho1 : 1000000 / P < X := qq.mpr hov
                have HE := Lib.hid (HOV.out (HFX2.out hov))
                have bwz := bw.trans (bq.mono bws)
                clear HFX2 HDF2 qq hov HOV HST HFO HO7 HO5 HO4 HT1
                generalize 1000000 / P = q at *
                go_wp2_with (fail)
                go_quiet ((go_at_call 71; first | (with_reducible exact quiet_more fun W hW => HB1.out W) | (with_reducible exact quiet_more fun W hW => HB2.out W)))
                go_wp2_with (fail)
                go_quiet (fail)
                go_wp2_with (fail)
                refine bodyPost_ret (v := .tuple #[.slice none 0 0, .bool false]) (by simp [results, Try.results53, go_sem]) rfl ?_
                exact ⟨S, HPM.out, HSR.out, .inr ⟨HE.out, rfl, by first | exact below_drewN bwz _ | exact below_drewN (below_drewN bwz _) _ | exact below_drewN (below_drewN (below_drewN bwz _) _) _⟩⟩
              · have ho1 : ¬ 1000000 / P < X := fun hh => hov (qq.mp hh)
                have HN := Lib.hid (HDF2.out (by omega))
                clear HFX2 HDF2 qq hov HOV HST HFO
                generalize 1000000 / P = q at *
                generalize hZ : P * X = Z at *
                go_wp2_with (fail)
                go_quiet ((go_at_call 71; first | (with_reducible exact quiet_more fun W hW => HB1.out W) | (with_reducible exact quiet_more fun W hW => HB2.out W)))
                go_wp2_with (fail)
                go_quiet (fail)
                go_wp2_with (fail)
                exact ⟨⟨i + 1, Z, R, g7, c7, _, W1, rfl, by go_num, rfl, rfl, by omega, HN, HO7, bq⟩, by simp [intOf]; omega⟩
          · have k3 : ¬ ((i : Int) + 1 < (T.length : Int)) := by omega
            have k3d : decide ((i : Int) + 1 < (T.length : Int)) = false := decide_eq_false k3
            have HFX2 := Lib.hid (HFX.out (fun hh => absurd hh hnx))
            have HDF2 := Lib.hid (HDF.out (fun hh => absurd hh hnx))
            clear HDF HFX HP HB1
            generalize T.getD i 0 = X at *
            by_cases hov : 1000000 < P * X
            · have ho1 : 1000000 / P < X := qq.mpr hov
              have HE := Lib.hid (HOV.out (HFX2.out hov))
              have bwz := bw.trans (bq.mono bws)
              clear HFX2 HDF2 qq hov HOV HST HFO HO7 HO5 HO4 HT1
              generalize 1000000 / P = q at *
              go_wp2_with (fail)
              go_quiet (fail)
              go_wp2_with (fail)
              go_quiet (fail)
              go_wp2_with (fail)
              refine bodyPost_ret (v := .tuple #[.slice none 0 0, .bool false]) (by simp [results, Try.results53, go_sem]) rfl ?_
              exact ⟨S, HPM.out, HSR.out, .inr ⟨HE.out, rfl, by first | exact below_drewN bwz _ | exact below_drewN (below_drewN bwz _) _ | exact below_drewN (below_drewN (below_drewN bwz _) _) _⟩⟩
            · have ho1 : ¬ 1000000 / P < X := fun hh => hov (qq.mp hh)
              have HN := Lib.hid (HDF2.out (by omega))
              clear HFX2 HDF2 qq hov HOV HST HFO
              generalize 1000000 / P = q at *
              generalize hZ : P * X = Z at *
              go_wp2_with (fail)
              go_quiet (fail)
              go_wp2_with (fail)
              go_quiet (fail)
              go_wp2_with (fail)
              exact ⟨⟨i + 1, Z, R, g7, c7, _, W1, rfl, by go_num, rfl, rfl, by omega, HN, HO7, bq⟩, by simp [intOf]; omega⟩
        · obtain rfl : i = T.length := by omega
          have hge : ¬ ((T.length : Int) < (T.length : Int)) := by omega
          obtain ⟨hF, hRT⟩ := HST.out P R HP.out
          have HF := Lib.hid hF
          replace HO7 := Lib.hid (HO7.out.drewN n)
          replace bq := below_drewN bq n
          generalize W1.drewN n = W1 at *
          have bqs := bq.size
          have HOP : Hid (OwnI (W1.alloc (.cells #[.int .i64 P] 2)) w.heap.size (.slice (some ⟨W1.heap.size, 0, none⟩) 1 1) [P]) := Lib.hid (OwnI.lit W1 [P] (by omega) (by simp))
          have HG5 := Lib.hid ((HO5.out.below bq).alloc (.cells #[.int .i64 P] 2))
          clear HP hF HFO HST
          have hbl : ∀ k, (Value.slice (some ⟨W1.heap.size, 0, none⟩) 1 1).ownBlock = some k → k = W1.heap.size := fun k hk => by simp [Value.ownBlock] at hk; omega
          go_wp2_with (first | (at_builtin; refine wpList_append_own_at _ rfl (.tmp 62) (.tmp 63) 24 rfl w.heap.size 2 i0 (.int .i64 0) 1 8 Try.underlying24 hi hz0 hz1 hz2 rfl (by decide) (.slice (some ⟨W1.heap.size, 0, none⟩) 1 1) 1 ([P].map (Value.int .i64)) rfl HOP.out ⟨g5, 0, none⟩ G.length c5 (G.map (Value.int .i64)) rfl (by simp) HG5.out.news (by intro z hz; obtain ⟨y, _, rfl⟩ := List.mem_map.mp hz; rfl) (by unfold maxLen; omega) (by omega) (by simp; omega) ?_; intro v3 w3 own3 gr3 _ at3; rw [Nat.add_comm] at own3; obtain ⟨g3, c3, rfl⟩ := ownsRow_succ own3; replace gr3 : (W1.alloc (.cells #[.int .i64 P] 2)).grownBy w3 (Value.slice (some ⟨W1.heap.size, 0, none⟩) 1 1).ownBlock := gr3))
          have bq3 := ((bw.trans (bq.mono bws)).alloc (by omega) (.cells #[.int .i64 P] 2)).grown gr3 (by simp; omega) (fun k hk => by have := hbl k hk; omega)
          have HO8 : Hid (OwnI w3 w.heap.size (.slice (some ⟨g3, 0, none⟩) (P :: G).length c3) (P :: G)) := Lib.hid (by
            unfold OwnI
            simpa using own3)
          have HO9 : Hid (OwnI w3 w.heap.size (.slice (some ⟨g7, 0, none⟩) R.length c7) R) := Lib.hid (ownsRow_keep (ownsRow_base (HO7.out.alloc (.cells #[.int .i64 P] 2)) bws) fun k hk => gr3.block k (by have := (World.ownsRow.lt HO7.out k hk).2; simp; omega) (fun e => by have := hbl k e.symm; have := (World.ownsRow.lt HO7.out k hk).2; omega))
          exact ⟨⟨R, P :: G, _, c7, g3, c3, rfl, by simp, HF, HO9, HO8, bq3⟩, hRT⟩
end Go.Proofs.Ytpplojbcjgiabaa
