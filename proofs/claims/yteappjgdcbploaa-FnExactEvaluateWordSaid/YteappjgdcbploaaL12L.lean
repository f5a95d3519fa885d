/- Consistency of the program: productsAt. -/
import Derived.Test.YteappjgdcbploaaL12K
namespace Go.Proofs.Yteappjgdcbploaa
open Go.RowKit
set_option linter.unusedVariables false
set_option linter.unusedSimpArgs false

namespace Num
theorem idx_inj {N e x e' x' : Nat} (hx : x < N) (hx' : x' < N) (h : e * N + x = e' * N + x') : e = e' ∧ x = x' := by
  have h1 : (e * N + x) % N = x := by rw [Nat.add_comm, Nat.add_mul_mod_self_right, Nat.mod_eq_of_lt hx]
  have h2 : (e' * N + x') % N = x' := by rw [Nat.add_comm, Nat.add_mul_mod_self_right, Nat.mod_eq_of_lt hx']
  have h3 : x = x' := by rw [← h1, h, h2]
  subst h3
  exact ⟨Nat.eq_of_mul_eq_mul_right (by omega) (by omega : e * N = e' * N), rfl⟩
theorem idx_lt {N e x o : Nat} (hx : x < N) (he : e < o) : e * N + x < o * N := by
  have := Nat.mul_le_mul_right N (by omega : e + 1 ≤ o)
  rw [Nat.add_mul, Nat.one_mul] at this
  omega
theorem getD_set_ne {l : List Int} {k m : Nat} (v : Int) (h : k ≠ m) : (l.set k v).getD m 0 = l.getD m 0 := by
  rw [List.getD_eq_getElem?_getD, List.getElem?_set_ne h, ← List.getD_eq_getElem?_getD]
theorem getD_set_eq {l : List Int} {k : Nat} (v : Int) (h : k < l.length) : (l.set k v).getD k 0 = v := by
  rw [List.getD_eq_getElem?_getD, List.getElem?_set_self h]
  rfl
/-- What a table holds, by exponent and element. -/
def tabV (L : Lv) (Ls : List Lv) (e x : Nat) : Int :=
  if (e : Int) + 1 < L.o then ((e : Int) + 1) * szL Ls + numL Ls (imgL L Ls (decL Ls (x : Int))) else numL Ls (mulL Ls L.w (imgL L Ls (decL Ls (x : Int))))
theorem tab_at {L : Lv} {Ls : List Lv} (hO : OkL (L :: Ls)) (C : Con Ls) {e x : Nat} (he : (e : Int) < L.o) (hx : (x : Int) < szL Ls) : (tabL (L :: Ls)).getD (e * (szL Ls).toNat + x) 0 = tabV L Ls e x := by
  have M := Con.mon hO.2.2.2.2 C
  obtain ⟨hE, hn⟩ := decL_El hO.2.2.2.2 (x := (x : Int)) (by omega) hx
  have hI := El.img hO (decL Ls (x : Int))
  have hEl : El (L :: Ls) ((e : Int) :: decL Ls (x : Int)) := ⟨_, _, rfl, by omega, he, hE⟩
  have hs := szL_pos hO.2.2.2.2
  have h := tabL_at hO hEl
  rw [numL_cons, hn] at h
  have e1 : ((e : Int) * szL Ls + (x : Int)).toNat = e * (szL Ls).toNat + x := by
    have : ((e * (szL Ls).toNat + x : Nat) : Int) = (e : Int) * szL Ls + (x : Int) := by
      rw [Int.natCast_add, Int.natCast_mul, Int.toNat_of_nonneg (by omega)]
    omega
  rw [e1] at h
  rw [h]
  show numL (L :: Ls) (mulL (L :: Ls) ((e : Int) :: decL Ls (x : Int)) (1 :: zer Ls.length)) = _
  unfold tabV
  rw [mulL_cons]
  have e2 : mulL Ls (iter (imgL L Ls) (1 : Int).toNat (decL Ls (x : Int))) (zer Ls.length) = imgL L Ls (decL Ls (x : Int)) := M.oner _ hI
  rw [e2]
  by_cases hc : (e : Int) + 1 < L.o
  · rw [if_pos hc, if_neg (by omega), numL_cons]
  · rw [if_neg hc, if_pos (by omega), numL_cons, show (e : Int) + 1 - L.o = 0 by omega, Int.zero_mul, Int.zero_add]
theorem tab_full {L : Lv} {Ls : List Lv} (hO : OkL (L :: Ls)) (C : Con Ls) {pl : List Int} (hl : pl.length = L.o.toNat * (szL Ls).toNat) (h : ∀ e x : Nat, (e : Int) < L.o → (x : Int) < szL Ls → pl.getD (e * (szL Ls).toNat + x) 0 = tabV L Ls e x) : pl = tabL (L :: Ls) := by
  have hs := szL_pos hO.2.2.2.2
  have ht := tabL_len hO
  have h2 := hO.1
  have hlen : pl.length = (tabL (L :: Ls)).length := by
    have : ((tabL (L :: Ls)).length : Int) = L.o * szL Ls := ht
    have e : ((L.o.toNat * (szL Ls).toNat : Nat) : Int) = L.o * szL Ls := by rw [Int.natCast_mul, Int.toNat_of_nonneg (by omega), Int.toNat_of_nonneg (by omega)]
    omega
  refine ext_at' 0 hlen fun p hp => ?_
  obtain ⟨e, x, hx, rfl⟩ : ∃ e x, x < (szL Ls).toNat ∧ p = e * (szL Ls).toNat + x := ⟨p / (szL Ls).toNat, p % (szL Ls).toNat, Nat.mod_lt _ (by omega), by rw [Nat.mul_comm]; exact (Nat.div_add_mod _ _).symm⟩
  have he : e < L.o.toNat := by
    rcases Nat.lt_or_ge e L.o.toNat with h3 | h3
    · exact h3
    · have := Nat.mul_le_mul_right (szL Ls).toNat h3
      omega
  rw [h e x (by omega) (by omega), tab_at hO C (by omega) (by omega)]
end Num
/-- A change in a block that is new changes nothing of what was there. -/
theorem chg_new {S : Nat → Prop} {w w1 w2 : World} {g : Nat} (h : ChgS S w w1) (k : ChgS (fun k => k = g) w1 w2) (hg : w.heap.size ≤ g) : ChgS S w w2 :=
  ⟨k.os.trans h.os, k.tape.trans h.tape, k.output.trans h.output, Nat.le_trans h.size k.size, fun j hj hn => by rw [k.block j (by have := h.size; omega) (by omega), h.block j hj hn]⟩
set_option maxRecDepth 100000 in
set_option maxHeartbeats 8000000 in
theorem productsAt_any {O : List Int} {W : List (List Int)} {J : List (List (List Int))} (V : Num.Val O W J) (i : Nat) (hi : i < O.length) (C : Num.Con (Num.tlL O W J (i + 1))) (t : Tw) (bm : Nat) (w : World)
    (HT : ∀ w', ChgS (fun k => k = bm) w w' → TwR O W J t (i + 1) w') (hs : MSt O W J i t.bo bm w) :
    Calls Try.prog 158 #[.pointer (some ⟨t.tb, 0, none⟩), .int .i64 (i : Int)] w fun e w' => ∃ v, e = .returned v ∧ OwnI w' w.heap.size v (Num.tabL (Num.tlL O W J i)) ∧ ChgS (fun k => k = bm) w w' ∧ MSt O W J i t.bo bm w' := by
  obtain ⟨iT, hiT, hz0, hz1, hz2⟩ := info_parts infoI
  have n6 := V.n6
  have hOi := V.ok i
  rw [Num.tlL_step hi] at hOi
  have HV := Lib.hid V
  have HC := Lib.hid C
  have HTT := Lib.hid HT
  have HOi := Lib.hid hOi
  have T0 := HT w (ChgS.refl _ _)
  have hob := V.ob i hi
  have hsb := szL_bd V (i + 1)
  have hsi := szL_bd V i
  have hse : Num.szL (Num.tlL O W J i) = O.getD i 0 * Num.szL (Num.tlL O W J (i + 1)) := by rw [Num.tlL_step hi]; rfl
  have HGN : Hid (∀ n, Calls Try.prog 111 #[.pointer (some ⟨t.tb, 0, none⟩), .int .i64 (i : Int)] (w.drewN n) fun e w' => e = .returned (.int .i64 (Num.szL (Num.tlL O W J (i + 1)))) ∧ w' = w.drewN n) := Lib.hid fun n => (gen_any V (T0.drewN n) i hi).mono fun _ _ ⟨a, b⟩ => ⟨a, b.symm⟩
  obtain ⟨tl, t0, t1, t2, t3, t4, t5, t6, t7⟩ := T0.box.c8
  obtain ⟨gO, oO, hAO, hgO, cO⟩ := T0.pres.1 i hi
  obtain ⟨gW, oW, BW, dW, hAW, gWl, cW, rW⟩ := cellV (j := i) T0.pres.2.1 (by rw [V.lw]; exact hi)
  rw [V.wl i hi] at cW
  rw [hAO] at t0
  rw [hAW] at t1
  have cS : w.cell? ⟨t.gS, i, none⟩ = some (.int .i64 (Num.szL (Num.tlL O W J i))) := by
    obtain ⟨g, o, e, hg, hc⟩ := T0.sz i (by rw [Num.szsL_len]; omega)
    simp only [Option.some.injEq, Addr.mk.injEq, and_true] at e
    obtain ⟨rfl, rfl⟩ := e
    rwa [Num.szsL_at (by omega), Nat.zero_add] at hc
  have wE := V.we i (i + 1) hi
  have e0 := Num.num_pad (W := W) (J := J) (V.wl i hi) (i + 1) (by omega) (fun z hz => V.wz i z hi (by omega))
  have HNU : Hid (∀ n, Calls Try.prog 106 #[.pointer (some ⟨t.tb, 0, none⟩), .slice BW O.length dW] (w.drewN n) fun e w' => e = .returned (.int .i64 (Num.numL (Num.tlL O W J (i + 1)) ((W.getD i []).drop (i + 1)))) ∧ w.drewN n = w') := Lib.hid fun n => by
    have := number_any V (T0.drewN n) (W.getD i []) BW dW (rW.below' (below_drewN (Below.refl _ _) n)) (V.wl i hi) (by simpa using V.we i 0 hi)
    rwa [e0] at this
  have hne := Num.El.mul (V.ok (i + 1)) wE wE
  have HWE := Lib.hid wE
  have HS0 := Lib.hid hs
  have HLW : Hid ((Num.lvA O W J i).w = (W.getD i []).drop (i + 1) ∧ (Num.lvA O W J i).o = O.getD i 0) := Lib.hid ⟨rfl, rfl⟩
  obtain ⟨N, hN⟩ : ∃ N : Nat, Num.szL (Num.tlL O W J (i + 1)) = (N : Int) := ⟨(Num.szL (Num.tlL O W J (i + 1))).toNat, by omega⟩
  obtain ⟨o, ho⟩ : ∃ o : Nat, O.getD i 0 = (o : Int) := ⟨(O.getD i 0).toNat, by omega⟩
  obtain ⟨wn, hwn⟩ : ∃ wn, Num.numL (Num.tlL O W J (i + 1)) ((W.getD i []).drop (i + 1)) = wn := ⟨_, rfl⟩
  have hNo : o * N ≤ 117649 := by
    have : ((o * N : Nat) : Int) = Num.szL (Num.tlL O W J i) := by rw [hse, hN, ho, Int.natCast_mul]
    omega
  have hse2 : Num.szL (Num.tlL O W J i) = ((o * N : Nat) : Int) := by rw [hse, hN, ho, Int.natCast_mul]
  have HN := Lib.hid hN
  have HO := Lib.hid ho
  have HWN := Lib.hid hwn
  have HSE := Lib.hid hse2
  rw [hN] at HGN hsb
  rw [ho] at cO hob
  rw [hwn] at HNU
  rw [hse2] at cS
  have i0 : (0 : Int) ≤ (i : Int) := by omega
  have i1 : (i : Int) < (O.length : Int) := by omega
  have i2 : (i : Int) < ((O.length + 1 : Nat) : Int) := by omega
  have hwo : IntKind.i64.wrap ((o : Int) - 1) = (o : Int) - 1 := IntWalk.i64_in _ (by omega)
  have hlt := hs.lt
  clear T0 V C HT hOi hs e0 wE hsi hse hne rW hN ho hwn hse2 gWl hgO
  go_enter Try.func158, Try.ntmps158
  go_wp2_with (fail)
  go_quiet ((go_at_call 111; exact Calls.quiet_of_same (HGN.out _)))
  have t0' : (w.drewN nq).cell? ⟨t.tb, 0, none⟩ = _ := t0
  have t1' : (w.drewN nq).cell? ⟨t.tb, 1, none⟩ = _ := t1
  have t4' : (w.drewN nq).cell? ⟨t.tb, 4, none⟩ = _ := t4
  have cW' : (w.drewN nq).cell? ⟨gW, oW + i, none⟩ = _ := cW
  have cS' : (w.drewN nq).cell? ⟨t.gS, i, none⟩ = _ := cS
  have HNU2 := Lib.hid (HNU.out nq)
  have b1 : Below w.heap.size w (w.drewN nq) := below_drewN (Below.refl _ _) nq
  clear t0 t1 t2 t3 t4 t5 t6 t7 cW cS cO HNU HGN
  generalize hw1 : w.drewN nq = w1 at *
  clear hw1
  go_wp2_with (fail)
  refine HNU2.out.mono ?_; rintro e w2 ⟨rfl, rfl⟩
  have z1 := b1.size
  go_wp2_with (first | (at_make; refine wpList_make_full _ rfl (.tmp 40) (.tmp 40) 22 rfl w.heap.size 2 iT (.int .i64 0) 1 Try.underlying22 hiT hz0 hz1 .i64 .i64 ((o * N : Nat) : Int) ((o * N : Nat) : Int) (o * N) rfl rfl rfl rfl (by rw [hz2]; omega) (by unfold maxLen; omega) z1 ?_; intro w2 own2 gr2; have o2 := madeZ own2))
  have L2 : Below w.heap.size w w2 := b1.grown gr2 z1 (fun k hk => by simp at hk)
  have HS2 := Lib.hid (HS0.out.below L2)
  have hc2 : ChgS (fun k => k = bm) w w2 := ChgS.of_below L2
  have HO2 := Lib.hid o2
  obtain ⟨gq, hgq⟩ : ∃ g, g = w1.heap.size := ⟨_, rfl⟩
  rw [← hgq] at HO2 ⊢
  have hgq2 : w.heap.size ≤ gq := by omega
  obtain ⟨o', hoo⟩ : ∃ o', o = o' + 1 := ⟨o - 1, by omega⟩
  have eo : (o : Int) - 1 = (o' : Int) := by omega
  rw [eo]
  have HOO := Lib.hid hoo
  clear eo hoo hwo
  clear own2 gr2 o2 z1 hgq HNU2 t0' t1' t4' cW' cS' b1
  have HIM : Hid (∀ (x : Nat) w', x < N → ChgS (fun k => k = bm) w w' → MSt O W J i t.bo bm w' → Calls Try.prog 166 #[.pointer (some ⟨t.tb, 0, none⟩), .int .i64 (i : Int), .int .i64 (x : Int)] w' fun e w'' => e = .returned (.int .i64 (Num.numL (Num.tlL O W J (i + 1)) (Num.imgL (Num.lvA O W J i) (Num.tlL O W J (i + 1)) (Num.decL (Num.tlL O W J (i + 1)) (x : Int))))) ∧ ChgS (fun k => k = bm) w' w'' ∧ MSt O W J i t.bo bm w'') := Lib.hid fun x w' hx h1 h2 => by
    obtain ⟨d1, d2⟩ := Num.decL_El (HV.out.ok (i + 1)) (x := (x : Int)) (by omega) (by rw [HN.out]; omega)
    have := imageVec_any HV.out i hi HC.out t bm w HTT.out _ d1 w' h1 h2
    rwa [d2] at this
  have HTM : Hid (∀ (x : Nat) w', x < N → ChgS (fun k => k = bm) w w' → Calls Try.prog 108 #[.pointer (some ⟨t.tb, 0, none⟩), .int .i64 wn, .int .i64 (Num.numL (Num.tlL O W J (i + 1)) (Num.imgL (Num.lvA O W J i) (Num.tlL O W J (i + 1)) (Num.decL (Num.tlL O W J (i + 1)) (x : Int))))] w' fun e w'' => e = .returned (.int .i64 (Num.tabV (Num.lvA O W J i) (Num.tlL O W J (i + 1)) o' x)) ∧ w' = w'') := Lib.hid fun x w' hx h1 => by
    have hI := Num.El.img HOi.out (Num.decL (Num.tlL O W J (i + 1)) (x : Int))
    have := times_any HV.out (HTT.out w' h1) (by omega) HC.out _ _ HWE.out hI
    rw [HWN.out] at this
    unfold Num.tabV
    rw [if_neg (by rw [HLW.out.2, HO.out]; have := HOO.out; omega), HLW.out.1]
    exact this
  have HTV : Hid (∀ e x : Nat, e < o' → Num.tabV (Num.lvA O W J i) (Num.tlL O W J (i + 1)) e x = (((e + 1) * N : Nat) : Int) + Num.numL (Num.tlL O W J (i + 1)) (Num.imgL (Num.lvA O W J i) (Num.tlL O W J (i + 1)) (Num.decL (Num.tlL O W J (i + 1)) (x : Int)))) := Lib.hid fun e x he => by
    unfold Num.tabV
    rw [if_pos (by rw [HLW.out.2, HO.out]; have := HOO.out; omega), HN.out, Int.natCast_mul, Int.natCast_add]
    rfl
  have HIB : Hid (∀ x : Nat, 0 ≤ Num.numL (Num.tlL O W J (i + 1)) (Num.imgL (Num.lvA O W J i) (Num.tlL O W J (i + 1)) (Num.decL (Num.tlL O W J (i + 1)) (x : Int))) ∧ Num.numL (Num.tlL O W J (i + 1)) (Num.imgL (Num.lvA O W J i) (Num.tlL O W J (i + 1)) (Num.decL (Num.tlL O W J (i + 1)) (x : Int))) ≤ 117649) := Lib.hid fun x => num_ok HV.out (Num.El.img HOi.out _)
  have hwin : gq < w2.heap.size := by
    have := World.ownsRow.lt HO2.out gq rfl
    exact this.2
  go_loopw [9, 10, 11, 43, 51] (fun _ _ _ s43 _ wr => ∃ (x : Nat) (pl : List Int), s43 = .int .i64 (x : Int) ∧ x ≤ N ∧ Hid (OwnI wr w.heap.size (.slice (some ⟨gq, 0, none⟩) (o * N) (o * N)) pl) ∧ Hid (pl.length = o * N) ∧ Hid (∀ e x', e < o → x' < x → pl.getD (e * N + x') 0 = Num.tabV (Num.lvA O W J i) (Num.tlL O W J (i + 1)) e x') ∧ ChgS (fun k => k = bm) w wr ∧ Hid (MSt O W J i t.bo bm wr)) (fun _ _ _ s43 _ _ => N - (intOf s43).toNat)
  case atStart => exact ⟨0, _, rfl, by omega, HO2, Lib.hid (by simp), Lib.hid fun e x' he hx => by omega, hc2, HS2⟩
  case round =>
    clear HO2 HS2 hc2
    obtain ⟨x, pl, rfl, hx, hO, hL, hP, hch, hst⟩ := hrel
    by_cases hlt : x < N
    · have x1 : (x : Int) < (N : Int) := by omega
      have HI := Lib.hid (HIM.out x wr hlt hch hst.out)
      have HT1 : Hid (∀ w', ChgS (fun k => k = bm) w w' → _) := Lib.hid (fun w' h => HTM.out x w' hlt h)
      have HTx : Hid (∀ e, e < o' → Num.tabV (Num.lvA O W J i) (Num.tlL O W J (i + 1)) e x = _) := Lib.hid (fun e he => HTV.out e x he)
      have hib := HIB.out x
      have hwx : IntKind.i64.wrap ((x : Int) + 1) = ((x + 1 : Nat) : Int) := by rw [IntWalk.i64_in _ (by omega)]; omega
      generalize Num.numL (Num.tlL O W J (i + 1)) (Num.imgL (Num.lvA O W J i) (Num.tlL O W J (i + 1)) (Num.decL (Num.tlL O W J (i + 1)) (x : Int))) = im at *
      go_wp2_with (fail)
      refine HI.out.mono ?_; rintro e w3 ⟨rfl, hc3, hs3⟩
      have HO3 : Hid (OwnI w3 w.heap.size (.slice (some ⟨gq, 0, none⟩) (o * N) (o * N)) pl) := Lib.hid (ownsRow_keep hO.out fun k e => by
        simp only [Value.ownBlock, Option.some.injEq] at e
        subst e
        exact hc3.block gq (World.ownsRow.lt hO.out gq rfl).2 (by omega))
      have HS3 := Lib.hid hs3
      have hc4 := hch.trans hc3
      clear HI hs3 hc3 hO hst hch
      go_wp2_with (fail)
      go_loopw [11, 51] (fun _ s51 wr => ∃ (e : Nat) (pl : List Int), s51 = .int .i64 (e : Int) ∧ e ≤ o' ∧ Hid (OwnI wr w.heap.size (.slice (some ⟨gq, 0, none⟩) (o * N) (o * N)) pl) ∧ Hid (pl.length = o * N) ∧ Hid (∀ e x', e < o → x' < x → pl.getD (e * N + x') 0 = Num.tabV (Num.lvA O W J i) (Num.tlL O W J (i + 1)) e x') ∧
        Hid (∀ e', e' < e → pl.getD (e' * N + x) 0 = Num.tabV (Num.lvA O W J i) (Num.tlL O W J (i + 1)) e' x) ∧ ChgS (fun k => k = bm) w wr ∧ Hid (MSt O W J i t.bo bm wr)) (fun _ s51 _ => o' - (intOf s51).toNat)
      case atStart => exact ⟨0, pl, rfl, by omega, HO3, hL, hP, Lib.hid fun e' he => by omega, hc4, HS3⟩
      case round =>
        clear HO3 HS3 hc4 hL hP
        obtain ⟨e, pl, rfl, he, hO, hL, hP, hQ, hch, hst⟩ := hrel
        by_cases hle : e < o'
        · have e1 : (e : Int) < (o' : Int) := by omega
          have heo : e + 1 < o := by have := HOO.out; omega
          have hidx : e * N + x < o * N := Num.idx_lt hlt (by omega)
          have hidx2 : (e + 1) * N ≤ o * N := Nat.mul_le_mul_right N (by omega)
          obtain ⟨a1, a2⟩ := hO.out.at_ (e * N + x) (by rw [hL.out]; exact hidx)
          have hw1 : IntKind.i64.wrap ((e : Int) * (N : Int)) = ((e * N : Nat) : Int) := by rw [← Int.natCast_mul]; exact IntWalk.i64_in _ (by omega)
          have hw2 : IntKind.i64.wrap (((e * N : Nat) : Int) + (x : Int)) = ((e * N + x : Nat) : Int) := by rw [IntWalk.i64_in _ (by omega)]; omega
          have hw3 : IntKind.i64.wrap ((e : Int) + 1) = (e : Int) + 1 := IntWalk.i64_in _ (by omega)
          have hw4 : IntKind.i64.wrap (((e : Int) + 1) * (N : Int)) = (((e + 1) * N : Nat) : Int) := by rw [show (e : Int) + 1 = ((e + 1 : Nat) : Int) by omega, ← Int.natCast_mul]; exact IntWalk.i64_in _ (by omega)
          have hw5 : IntKind.i64.wrap ((((e + 1) * N : Nat) : Int) + im) = (((e + 1) * N : Nat) : Int) + im := IntWalk.i64_in _ (by omega)
          have k0 : (0 : Int) ≤ ((e * N + x : Nat) : Int) := by omega
          have k1 : ((e * N + x : Nat) : Int) < ((o * N : Nat) : Int) := by omega
          have k2 : (((e * N + x : Nat) : Int)).toNat = e * N + x := by omega
          have hval := HTx.out e hle
          have HOS := Lib.hid (hO.out.set (e * N + x) ((((e + 1) * N : Nat) : Int) + im))
          have hcs : ChgS (fun k => k = gq) wr (wr.setCell ⟨gq, e * N + x, none⟩ (.int .i64 ((((e + 1) * N : Nat) : Int) + im))) := ChgS.set wr ⟨gq, e * N + x, none⟩ _
          have HSS := Lib.hid (hst.out.other hcs (by omega) (by omega))
          have hcf := chg_new hch hcs hgq2
          have HLS : Hid ((pl.set (e * N + x) ((((e + 1) * N : Nat) : Int) + im)).length = o * N) := Lib.hid (by rw [List.length_set]; exact hL.out)
          have HPS : Hid (∀ e' x', e' < o → x' < x → (pl.set (e * N + x) ((((e + 1) * N : Nat) : Int) + im)).getD (e' * N + x') 0 = Num.tabV (Num.lvA O W J i) (Num.tlL O W J (i + 1)) e' x') := Lib.hid fun e' x' h1 h2 => by
            rw [Num.getD_set_ne _ (fun h => by have := (Num.idx_inj hlt (by omega : x' < N) h).2; omega)]
            exact hP.out e' x' h1 h2
          have HQS : Hid (∀ e', e' < e + 1 → (pl.set (e * N + x) ((((e + 1) * N : Nat) : Int) + im)).getD (e' * N + x) 0 = Num.tabV (Num.lvA O W J i) (Num.tlL O W J (i + 1)) e' x) := Lib.hid fun e' h1 => by
            by_cases h : e' = e
            · subst h; rw [Num.getD_set_eq _ (by rw [hL.out]; exact hidx), hval]
            · rw [Num.getD_set_ne _ (fun hh => h (Num.idx_inj hlt hlt hh).1.symm)]
              exact hQ.out e' (by omega)
          clear hO hP hQ hst hch hval hcs
          generalize hk : e * N + x = kk at *
          generalize hm : (e + 1) * N = mm at *
          generalize e * N = en at *
          clear hk hm
          go_wp2_with (fail)
          exact ⟨⟨e + 1, _, rfl, by omega, HOS, HLS, HPS, HQS, hcf, HSS⟩, by simp [intOf]; omega⟩
        · obtain rfl : e = o' := by omega
          have heo : e < o := by have := HOO.out; omega
          have hge : ¬ ((e : Int) < (e : Int)) := by omega
          have hidx : e * N + x < o * N := Num.idx_lt hlt heo
          obtain ⟨a1, a2⟩ := hO.out.at_ (e * N + x) (by rw [hL.out]; exact hidx)
          have hw1 : IntKind.i64.wrap ((e : Int) * (N : Int)) = ((e * N : Nat) : Int) := by rw [← Int.natCast_mul]; exact IntWalk.i64_in _ (by omega)
          have hw2 : IntKind.i64.wrap (((e * N : Nat) : Int) + (x : Int)) = ((e * N + x : Nat) : Int) := by rw [IntWalk.i64_in _ (by omega)]; omega
          have k0 : (0 : Int) ≤ ((e * N + x : Nat) : Int) := by omega
          have k1 : ((e * N + x : Nat) : Int) < ((o * N : Nat) : Int) := by omega
          have k2 : (((e * N + x : Nat) : Int)).toNat = e * N + x := by omega
          have HTI := Lib.hid (HT1.out wr hch)
          have hval : Num.tabV (Num.lvA O W J i) (Num.tlL O W J (i + 1)) e x = Num.tabV (Num.lvA O W J i) (Num.tlL O W J (i + 1)) e x := rfl
          have HOS := Lib.hid (hO.out.set (e * N + x) (Num.tabV (Num.lvA O W J i) (Num.tlL O W J (i + 1)) e x))
          have hcs : ChgS (fun k => k = gq) wr (wr.setCell ⟨gq, e * N + x, none⟩ (.int .i64 (Num.tabV (Num.lvA O W J i) (Num.tlL O W J (i + 1)) e x))) := ChgS.set wr ⟨gq, e * N + x, none⟩ _
          have HSS := Lib.hid (hst.out.other hcs (by omega) (by omega))
          have hcf := chg_new hch hcs hgq2
          have HLS : Hid ((pl.set (e * N + x) (Num.tabV (Num.lvA O W J i) (Num.tlL O W J (i + 1)) e x)).length = o * N) := Lib.hid (by rw [List.length_set]; exact hL.out)
          have HPS : Hid (∀ e' x', e' < o → x' < x + 1 → (pl.set (e * N + x) (Num.tabV (Num.lvA O W J i) (Num.tlL O W J (i + 1)) e x)).getD (e' * N + x') 0 = Num.tabV (Num.lvA O W J i) (Num.tlL O W J (i + 1)) e' x') := Lib.hid fun e' x' h1 h2 => by
            by_cases hxx : x' = x
            · subst hxx
              by_cases h : e' = e
              · subst h; rw [Num.getD_set_eq _ (by rw [hL.out]; exact hidx)]
              · rw [Num.getD_set_ne _ (fun hh => h (Num.idx_inj hlt hlt hh).1.symm)]
                exact hQ.out e' (by have := HOO.out; omega)
            · rw [Num.getD_set_ne _ (fun h => hxx (Num.idx_inj hlt (by omega : x' < N) h).2.symm)]
              exact hP.out e' x' h1 (by omega)
          clear hO hP hQ hst hch hval hcs
          generalize Num.tabV (Num.lvA O W J i) (Num.tlL O W J (i + 1)) e x = tv at *
          generalize hk : e * N + x = kk at *
          generalize e * N = en at *
          clear heo
          clear hk
          go_wp2_with (fail)
          refine HTI.out.mono ?_; rintro e5 w5 ⟨rfl, rfl⟩
          go_wp2_with (fail)
          exact ⟨⟨x + 1, _, rfl, by omega, HOS, HLS, HPS, hcf, HSS⟩, by simp [intOf]; omega⟩
    · obtain rfl : x = N := by omega
      have hge : ¬ ((x : Int) < (x : Int)) := by omega
      have HF : Hid (pl = Num.tabL (Num.tlL O W J i)) := Lib.hid (by
        have e1 := HLW.out.2
        have e2 := HN.out
        rw [Num.tlL_step hi]
        refine Num.tab_full HOi.out HC.out ?_ fun e y he hy => ?_
        · rw [e1, HO.out, e2, hL.out]; simp
        · rw [e1, HO.out] at he
          rw [e2] at hy
          have := hP.out e y (by omega) (by omega)
          rw [e2]
          exact this)
      go_wp2_with (fail)
      go_ret
      exact ⟨_, rfl, by rw [← HF.out]; exact hO.out, hch, hst.out⟩
end Go.Proofs.Yteappjgdcbploaa
