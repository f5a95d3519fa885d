/- Chains of orders and abelian groups of the program: abelianFor, directProduct. -/
import Derived.Test.YtpplojbcjgiabaaL09B
import Derived.Test.YtpplojbcjgiabaaNumAp
import Derived.Test.YtpplojbcjgiabaaL07A
import Derived.Deep.Heap
namespace Go.Proofs.Ytpplojbcjgiabaa
open Go.RowKit
set_option linter.unusedVariables false
set_option linter.unusedSimpArgs false

theorem owns_set {w : World} {base e n size : Nat} {v : Value} {xs : List Value} (h : w.ownsRow base e size v n xs) {p : Addr} (hp : p.block < base) (u : Value) : (w.setCell p u).ownsRow base e size v n xs :=
  ownsRow_keep h fun k hk => Go.Deep.blk_setCell_other w p u k (by have := (World.ownsRow.lt h k hk).1; omega)
theorem owns_blk {w w' : World} {b : Nat} {vs : List Value} {t : TypeId} {row : Option Nat} (h : Blk w b vs t) (hg : w.grownBy w' row) (hn : row ≠ some b) : Blk w' b vs t := (hg.block b h.lt (fun e => hn e.symm)).trans h
theorem Num.zerN_bd (c : List Int) : 0 ≤ Num.zerN c ∧ Num.zerN c ≤ c.length := by
  unfold Num.zerN
  have := List.countP_le_length (p := fun x : Int => decide (x = 0)) (l := c)
  omega
theorem Num.finL_len (c : List Int) : (Num.finL c).length ≤ c.length := List.length_filter_le _ _
set_option maxRecDepth 100000 in
set_option maxHeartbeats 2000000 in
theorem abelianFor_any (v : Value) (c : List Int) (w : World) (h : spI.rd w v c) (hl : c.length ≤ 100) : Calls Try.prog 68 #[v] w (Made spAb ⟨Num.finL c, Num.zerN c⟩ w) := by
  obtain ⟨i0, hi, hz0, hz1, hz2⟩ := info_parts infoI
  obtain ⟨A, cc, rfl, -, hA⟩ := h
  have L0 : Below w.heap.size w ((w.alloc (.cells [.slice none 0 0, (.int .i64 0 : Value)].toArray 40)).alloc (.cells [.slice none 0 0, (.int .i64 0 : Value)].toArray 40)) := by go_grown
  have BR0 : Blk ((w.alloc (.cells [.slice none 0 0, (.int .i64 0 : Value)].toArray 40)).alloc (.cells [.slice none 0 0, (.int .i64 0 : Value)].toArray 40)) w.heap.size [.slice none 0 0, (.int .i64 0 : Value)] 40 := (Blk.new w _ _).alloc _
  have BA0 : Blk ((w.alloc (.cells [.slice none 0 0, (.int .i64 0 : Value)].toArray 40)).alloc (.cells [.slice none 0 0, (.int .i64 0 : Value)].toArray 40)) (w.heap.size + 1) [.slice none 0 0, (.int .i64 0 : Value)] 40 := by have := Blk.new (w.alloc (.cells [.slice none 0 0, (.int .i64 0 : Value)].toArray 40)) [.slice none 0 0, (.int .i64 0 : Value)] 40; rwa [World.size_alloc] at this
  have HA := Lib.hid hA
  have HFT := Lib.hid (fun j (hj : j < c.length) => Num.finL_take hj)
  have HZT := Lib.hid (fun j (hj : j < c.length) => Num.zerN_take hj)
  have HZB := Lib.hid Num.zerN_bd
  have HFB := Lib.hid Num.finL_len
  clear hA
  go_enter Try.func68, Try.ntmps68
  go_wp2_with (fail)
  go_loopw [8] (fun s8 wr => ∃ (j : Nat) (u : Value), s8 = .int .i64 j ∧ j ≤ c.length ∧ Hid (OwnI wr (w.heap.size + 2) u (Num.finL (c.take j))) ∧ Blk wr (w.heap.size + 1) [u, .int .i64 (Num.zerN (c.take j))] 40 ∧ Blk wr w.heap.size [.slice none 0 0, (.int .i64 0 : Value)] 40 ∧ Below w.heap.size w wr) (fun s8 _ => c.length - (intOf s8).toNat)
  case atStart => exact ⟨0, _, rfl, by omega, Lib.hid (World.ownsRow_nil _ _ _ _), BA0, BR0, L0⟩
  case round =>
    obtain ⟨j, u, rfl, hj, HO, BA, BR, bw⟩ := hrel
    clear BA0 BR0 L0
    have bws := bw.size
    by_cases hlt : j < c.length
    · obtain ⟨g, o, rfl, hg, hc⟩ := (HA.out.below' bw) j hlt
      obtain ⟨U, ucap, rfl, hum⟩ := ownsRow_cap HO.out
      have j0 : (0 : Int) ≤ (j : Int) := by omega
      have j1 : (j : Int) < (c.length : Int) := by omega
      have EF := Lib.hid (HFT.out j hlt)
      have EZ := Lib.hid (HZT.out j hlt)
      have zb := HZB.out (c.take j)
      have fb := HFB.out (c.take j)
      have tl : (c.take j).length ≤ 100 := by simp; omega
      have bal := BA.lt
      obtain ⟨a2, a0, a1⟩ := BA.c2
      have f0 := BA.free 0
      have f1 := BA.free 1
      generalize c.getD j 0 = x at *
      generalize Num.finL (c.take j) = X at *
      generalize Num.zerN (c.take j) = Z at *
      by_cases hx : x = 0
      · subst hx
        have EF2 := EF.out
        have EZ2 := EZ.out
        rw [if_pos rfl] at EF2 EZ2
        have HE1 := Lib.hid EF2
        have HE2 := Lib.hid EZ2
        have HOS : Hid (OwnI (wr.setCell ⟨w.heap.size + 1, 1, none⟩ (.int .i64 (Z + 1))) (w.heap.size + 2) (.slice U X.length ucap) X) := Lib.hid (owns_set HO.out (by simp) _)
        have BA2 := BA.set 1 (.int .i64 (Z + 1))
        have BR2 := BR.other (p := ⟨w.heap.size + 1, 1, none⟩) (by simp) (.int .i64 (Z + 1))
        have bw2 := bw.setCell (p := ⟨w.heap.size + 1, 1, none⟩) (by simp) (.int .i64 (Z + 1))
        have wz : IntKind.i64.wrap (Z + 1) = Z + 1 := IntWalk.i64_in _ (by omega)
        clear EF EZ EF2 EZ2 HO BA BR bw
        go_wp2_with (fail)
        exact ⟨⟨j + 1, _, by go_num, by omega, Lib.hid (by rw [HE1.out]; exact HOS.out), by rw [HE2.out]; exact BA2, BR2, bw2⟩, by simp [intOf]; omega⟩
      · have EF2 := EF.out
        have EZ2 := EZ.out
        rw [if_neg hx] at EF2 EZ2
        have HE1 := Lib.hid EF2
        have HE2 := Lib.hid EZ2
        have tx : (x == 0) = false := by simpa using hx
        have HB := Lib.hid HO.out.base_le
        clear EF EZ EF2 EZ2
        go_wp2_with (first | (at_builtin; refine wpList_append_own_at _ rfl (.tmp 19) (.tmp 21) 24 rfl (w.heap.size + 2) 2 i0 (.int .i64 0) 1 8 Try.underlying24 hi hz0 hz1 hz2 rfl (by decide) _ _ _ rfl (HO.out.alloc _) ⟨_, 0, none⟩ 1 1 [.int .i64 x] rfl rfl (cell_one_new _ _ _) (by simp [Value.oneCell']) (by unfold maxLen; omega) (by omega) (by simp; omega) ?_; intro v3 w3 own3 gr3 _ at3; obtain ⟨g3, c3, rfl⟩ := ownsRow_succ own3; replace gr3 : (wr.alloc (.cells #[.int .i64 x] 2)).grownBy w3 (Value.slice U X.length ucap).ownBlock := gr3; have BA3 := owns_blk (BA.alloc (.cells #[.int .i64 x] 2)) gr3 (fun e => by have := HB.out _ e; omega); have BR3 := owns_blk (BR.alloc (.cells #[.int .i64 x] 2)) gr3 (fun e => by have := HB.out _ e; omega); obtain ⟨p2, p0, p1⟩ := BA3.c2; have q0 := BA3.free 0))
        have bw3 := (bw.alloc (by omega) (.cells #[.int .i64 x] 2)).grown gr3 (by simp; omega) (fun k hk => by have := HB.out k hk; omega)
        have HOS : Hid (OwnI (w3.setCell ⟨w.heap.size + 1, 0, none⟩ (.slice (some ⟨g3, 0, none⟩) (X.length + 1) c3)) (w.heap.size + 2) (.slice (some ⟨g3, 0, none⟩) (X.length + 1) c3) (X ++ [x])) := Lib.hid (by
          have := owns_set own3 (p := ⟨w.heap.size + 1, 0, none⟩) (by simp) (.slice (some ⟨g3, 0, none⟩) (X.length + 1) c3)
          unfold OwnI
          simpa using this)
        have BA4 := BA3.set 0 (.slice (some ⟨g3, 0, none⟩) (X.length + 1) c3)
        have BR4 := BR3.other (p := ⟨w.heap.size + 1, 0, none⟩) (by simp) (.slice (some ⟨g3, 0, none⟩) (X.length + 1) c3)
        have bw4 := bw3.setCell (p := ⟨w.heap.size + 1, 0, none⟩) (by simp) (.slice (some ⟨g3, 0, none⟩) (X.length + 1) c3)
        exact ⟨⟨j + 1, _, by go_num, by omega, Lib.hid (by rw [HE1.out]; exact HOS.out), by rw [HE2.out]; exact BA4, BR4, bw4⟩, by simp [intOf]; omega⟩
    · obtain rfl : j = c.length := by omega
      have hge : ¬ ((c.length : Int) < (c.length : Int)) := by omega
      rw [List.take_length] at HO BA
      obtain ⟨U, ucap, rfl, hum⟩ := ownsRow_cap HO.out
      have bal := BA.lt
      have brl := BR.lt
      obtain ⟨a2, a0, a1⟩ := BA.c2
      obtain ⟨r2, r0, r1⟩ := BR.c2
      have f0 := BR.free 0
      have f1 := BR.free 1
      have bw2 := (bw.setCell (p := ⟨w.heap.size, 0, none⟩) (by simp) (.slice U (Num.finL c).length ucap)).setCell (p := ⟨w.heap.size, 1, none⟩) (by simp) (.int .i64 (Num.zerN c))
      have HOS : Hid (OwnI ((wr.setCell ⟨w.heap.size, 0, none⟩ (.slice U (Num.finL c).length ucap)).setCell ⟨w.heap.size, 1, none⟩ (.int .i64 (Num.zerN c))) (w.heap.size + 2) (.slice U (Num.finL c).length ucap) (Num.finL c)) := Lib.hid (owns_set (owns_set HO.out (by simp) _) (by simp) _)
      generalize Num.zerN c = Z at *
      have HF : Hid (∃ F, F = Num.finL c) := Lib.hid ⟨_, rfl⟩
      generalize Num.finL c = F at *
      clear HO BA BR bw
      go_wp2_with (fail)
      refine bodyPost_ret (v := .agg #[.slice U F.length ucap, .int .i64 Z]) (by simp [results, Try.results68, go_sem, brl, r0, r1]) rfl ?_
      exact ⟨_, (fun k => (Value.slice U F.length ucap).ownBlock = some k), rfl, ⟨_, _, rfl, spI_of HOS.out, fun k hk => hk, fun k hk => (World.ownsRow.lt HOS.out k hk).2⟩, fun k hk => by have := (World.ownsRow.lt HOS.out k hk).1; omega, bw2⟩
/-- What a list of orders makes: the group and the code. -/
def rDir (gs : List Int) : Ab := if Num.OkD (Num.chR gs) then ⟨Num.finL (Num.chC gs), Num.zerN (Num.chC gs)⟩ else ⟨[], 0⟩
def cDir (gs : List Int) : Int := if Num.OkD (Num.chR gs) then 0 else 3
theorem Num.chC_bd {gs : List Int} (hg : ∀ g ∈ gs, 0 ≤ g) (h : Num.OkD (Num.chR gs)) : (Num.chC gs).length ≤ 10 ∧ ∀ j, 0 ≤ (Num.chC gs).getD j 0 ∧ (Num.chC gs).getD j 0 ≤ 1000000 := by
  rw [Num.chC_eq]
  refine ⟨by rw [List.length_reverse]; exact h.1, fun j => ?_⟩
  by_cases hj : j < (Num.chR gs).reverse.length
  · have hm : (Num.chR gs).reverse.getD j 0 ∈ Num.chR gs := by
      rw [List.getD_eq_getElem?_getD, List.getElem?_eq_getElem hj]
      show (Num.chR gs).reverse[j] ∈ _
      exact List.mem_reverse.mp (List.getElem_mem hj)
    exact ⟨((Num.chR_dc hg).2 _ hm).1, h.2 _ hm⟩
  · rw [List.getD_eq_getElem?_getD, List.getElem?_eq_none (by omega)]
    simp
theorem Num.insC_len (zs : List Int) (r : Int) : (Num.insC zs r).length ≤ zs.length + 1 := by
  unfold Num.insC
  have := Num.cAt_len zs r zs.length
  split <;> simp <;> omega
set_option maxRecDepth 100000 in
set_option maxHeartbeats 2000000 in
theorem directProduct_any (v : Value) (gs : List Int) (w : World) (h : spI.rd w v gs) (hl : gs.length ≤ 1000) (hg : ∀ x ∈ gs, 0 ≤ x ∧ x ≤ 1000000) : Calls Try.prog 51 #[v] w (MadeC spAb (rDir gs) (cDir gs) w) := by
  obtain ⟨A, cc, rfl, -, hA⟩ := h
  have g0 : ∀ x ∈ gs, 0 ≤ x := fun x hx => (hg x hx).1
  have L0 : Below w.heap.size w (w.alloc (.cells [.slice none 0 0, (.int .i64 0 : Value)].toArray 40)) := by go_grown
  have BR0 : Blk (w.alloc (.cells [.slice none 0 0, (.int .i64 0 : Value)].toArray 40)) w.heap.size [.slice none 0 0, (.int .i64 0 : Value)] 40 := Blk.new w _ _
  have HA := Lib.hid hA
  have HST := Lib.hid (fun j (hj : j < gs.length) => Num.chC_take hj)
  have HBD := Lib.hid (fun j (h : Num.OkD (Num.chR (gs.take j))) => Num.chC_bd (gs := gs.take j) (fun x hx => g0 x (List.mem_of_mem_take hx)) h)
  have HAB : Hid (∀ j, Num.abB (Num.finL (Num.chC (gs.take j))) (Num.zerN (Num.chC (gs.take j))) = decide (Num.OkD (Num.chR (gs.take j)))) := Lib.hid fun j => by
    rw [Num.chC_eq]
    exact Num.ab_of (Num.chR_dc fun x hx => g0 x (List.mem_of_mem_take hx))
  have HBAD : Hid (∀ j, ¬ Num.OkD (Num.chR (gs.take j)) → rDir gs = ⟨[], 0⟩ ∧ cDir gs = 3) := Lib.hid fun j h => by
    have := Num.ok_take g0 h
    unfold rDir cDir
    rw [if_neg this, if_neg this]
    exact ⟨rfl, rfl⟩
  have HGOOD : Hid (Num.OkD (Num.chR gs) → rDir gs = ⟨Num.finL (Num.chC gs), Num.zerN (Num.chC gs)⟩ ∧ cDir gs = 0) := Lib.hid fun h => by
    unfold rDir cDir
    rw [if_pos h, if_pos h]
    exact ⟨rfl, rfl⟩
  have HG : Hid (∀ j, j < gs.length → 0 ≤ gs.getD j 0 ∧ gs.getD j 0 ≤ 1000000) := Lib.hid fun j hj => Num.at_mem hj hg
  clear hA hg g0
  go_enter Try.func51, Try.ntmps51
  go_wp2_with (fail)
  go_loopw [4, 9] (fun s4 s9 wr => ∃ j : Nat, s9 = .int .i64 j ∧ j ≤ gs.length ∧ Hid (wr.ownsRow 0 80 1 s4 (Num.chC (gs.take j)).length ((Num.chC (gs.take j)).map (Value.int .i64))) ∧ (∀ k, s4.ownBlock = some k → w.heap.size + 1 ≤ k) ∧ Blk wr w.heap.size [.slice none 0 0, (.int .i64 0 : Value)] 40 ∧ Below w.heap.size w wr ∧ Hid (Num.OkD (Num.chR (gs.take j)))) (fun _ s9 _ => gs.length - (intOf s9).toNat)
  case atStart => exact ⟨0, rfl, by omega, Lib.hid (by rw [List.take_zero]; exact World.ownsRow_nil _ _ _ _), (fun k hk => by cases hk), BR0, L0, Lib.hid (by rw [List.take_zero]; exact ⟨by decide, fun x hx => by cases hx⟩)⟩
  case round =>
    obtain ⟨j, rfl, hj, HO, HB, BR, bw, HK⟩ := hrel
    clear BR0 L0
    have bws := bw.size
    by_cases hlt : j < gs.length
    · obtain ⟨g, o, rfl, hg, hc⟩ := (HA.out.below' bw) j hlt
      have j0 : (0 : Int) ≤ (j : Int) := by omega
      have j1 : (j : Int) < (gs.length : Int) := by omega
      have bd := HBD.out j HK.out
      have gx := HG.out j hlt
      have il := Num.insC_len (Num.chC (gs.take j)) (gs.getD j 0)
      have HI := Lib.hid (insert_any u4 (Num.chC (gs.take j)) (gs.getD j 0) wr HO.out (by omega) bd.2 gx.1 gx.2)
      rw [← HST.out j hlt] at HI il
      have HA1 := HAB.out (j + 1)
      have hbd := HBAD.out (j + 1)
      have HKN : Hid (Num.OkD (Num.chR (gs.take (j + 1))) → Num.OkD (Num.chR (gs.take (j + 1)))) := Lib.hid id
      have il2 : (Num.chC (gs.take (j + 1))).length ≤ 100 := by omega
      clear HO bd il HST
      generalize gs.getD j 0 = x at *
      obtain ⟨c, hcE⟩ : ∃ c, Num.chC (gs.take (j + 1)) = c := ⟨_, rfl⟩
      rw [hcE] at HI HA1 il2
      have HCE := Lib.hid hcE
      clear hcE
      go_wp2_with (fail)
      refine HI.out.mono ?_; rintro e w2 ⟨u2, rfl, own2, gr2, hu2⟩
      have BR2 := owns_blk BR gr2 (fun e => by have := HB _ e; omega)
      have bw2 := bw.grown gr2 bws (fun k hk => by have := HB k hk; omega)
      have HB2 : ∀ k, u2.ownBlock = some k → w.heap.size + 1 ≤ k := fun k hk => by
        rcases hu2 with h | h
        · exact HB k (h ▸ hk)
        · have h1 := h k hk
          have h2 := BR.lt
          omega
      have HO2 := Lib.hid own2
      have HC2 := Lib.hid (abelianFor_any u2 c w2 (by obtain ⟨A2, cap2, rfl, hm2⟩ := ownsRow_cap own2; exact ⟨A2, cap2, rfl, hm2, RdI.own own2⟩) il2)
      clear HI own2 gr2 hu2 BR bw HB
      go_wp2_with (fail)
      refine HC2.out.mono ?_; rintro e w3 ⟨u3, S3, rfl, ow3, hS3, hb3⟩
      have HC3 := isAb_any u3 _ w3 (spAb.own_rd ow3)
      rw [show Ab.ok ⟨Num.finL c, Num.zerN c⟩ = Num.abB (Num.finL c) (Num.zerN c) from rfl, HA1] at HC3
      have HC4 := Lib.hid HC3
      have BR3 := BR2.below hb3
      have bw3 := bw2.trans (hb3.mono bw2.size)
      have HO3 : Hid (w3.ownsRow 0 80 1 u2 c.length (c.map (Value.int .i64))) := Lib.hid (ownsRow_keep HO2.out fun k hk => hb3.block k (World.ownsRow.lt HO2.out k hk).2)
      clear HC2 HC3 ow3 hS3 hb3 BR2 bw2 HO2
      by_cases hok : Num.OkD (Num.chR (gs.take (j + 1)))
      · rw [decide_eq_true hok] at HC4
        have HK2 := Lib.hid hok
        clear hok
        go_wp2_with (fail)
        refine HC4.out.mono ?_; rintro e w4 ⟨rfl, hb4⟩
        have BR4 := BR3.below hb4
        have bw4 := bw3.trans (hb4.mono bw3.size)
        have HO4 : Hid (w4.ownsRow 0 80 1 u2 c.length (c.map (Value.int .i64))) := Lib.hid (ownsRow_keep HO3.out fun k hk => hb4.block k (World.ownsRow.lt HO3.out k hk).2)
        clear HC4 hb4 BR3 bw3 HO3
        go_wp2_with (fail)
        exact ⟨⟨j + 1, by go_num, by omega, Lib.hid (by rw [HCE.out]; exact HO4.out), HB2, BR4, bw4, HK2⟩, by simp [intOf]; omega⟩
      · rw [decide_eq_false hok] at HC4
        have HE := Lib.hid (hbd hok)
        clear hok
        go_wp2_with (fail)
        refine HC4.out.mono ?_; rintro e w4 ⟨rfl, hb4⟩
        have BR4 := BR3.below hb4
        have bw4 := bw3.trans (hb4.mono bw3.size)
        obtain ⟨r2, r0, r1⟩ := BR4.c2
        have f0 := BR4.free 0
        have f1 := BR4.free 1
        have bw5 := (bw4.setCell (p := ⟨w.heap.size, 0, none⟩) (by simp) (.slice none 0 0)).setCell (p := ⟨w.heap.size, 1, none⟩) (by simp) (.int .i64 0)
        clear HC4 hb4 BR3 bw3 HO3 BR4 bw4
        go_wp2_with (fail)
        refine bodyPost_ret (v := .tuple #[.agg #[.slice none 0 0, .int .i64 0], .int .i64 3]) (by simp [results, Try.results51, go_sem, r2, r0, r1]) rfl ?_
        rw [HE.out.1, HE.out.2]
        exact ⟨_, (fun k => (Value.slice none 0 0).ownBlock = some k), rfl, ⟨.slice none 0 0, _, rfl, spI_of (World.ownsRow_nil _ 0 _ _ : OwnI _ 0 (.slice none 0 0) []), fun k hk => hk, fun k hk => (by cases hk)⟩, (fun k hk => (by cases hk)), (by show 0 ≤ _; omega), bw5⟩
    · obtain rfl : j = gs.length := by omega
      have hge : ¬ ((gs.length : Int) < (gs.length : Int)) := by omega
      rw [List.take_length] at HO HK
      have HE := Lib.hid (HGOOD.out HK.out)
      have bd := HBD.out gs.length (by rw [List.take_length]; exact HK.out)
      rw [List.take_length] at bd
      have HC2 := Lib.hid (abelianFor_any u4 (Num.chC gs) wr (by obtain ⟨A2, cap2, rfl, hm2⟩ := ownsRow_cap HO.out; exact ⟨A2, cap2, rfl, hm2, RdI.own HO.out⟩) (by omega))
      have HFL := Lib.hid (Nat.le_trans (Num.finL_len (Num.chC gs)) bd.1)
      clear HO bd HBD
      generalize Num.chC gs = c at *
      go_wp2_with (fail)
      refine HC2.out.mono ?_; rintro e w3 ⟨u3, S3, rfl, ow3, hS3, hb3⟩
      obtain ⟨A3, n3, c3, rfl, r3⟩ := spAb_form (spAb.own_rd ow3)
      have BR3 := BR.below hb3
      have bw3 := bw.trans (hb3.mono bws)
      obtain ⟨r2, r0, r1⟩ := BR3.c2
      have f0 := BR3.free 0
      have f1 := BR3.free 1
      have HS3 : Hid (∀ k, S3 k → w.heap.size + 1 ≤ k) := Lib.hid fun k hk => by have := hS3 k hk; have := BR.lt; omega
      have OW := Lib.hid ow3
      have bw5 := (bw3.setCell (p := ⟨w.heap.size, 0, none⟩) (by simp) (.slice A3 n3 c3)).setCell (p := ⟨w.heap.size, 1, none⟩) (by simp) (.int .i64 (Num.zerN c))
      clear HC2 ow3 hS3 hb3 BR3 bw3 BR bw r3
      go_wp2_with (fail)
      refine bodyPost_ret (v := .tuple #[.agg #[.slice A3 n3 c3, .int .i64 (Num.zerN c)], .int .i64 0]) (by simp [results, Try.results51, go_sem, r2, r0, r1]) rfl ?_
      rw [HE.out.1, HE.out.2]
      have ns : ¬ S3 w.heap.size := fun hs => by have := HS3.out _ hs; omega
      refine ⟨_, S3, rfl, spAb.own_set (spAb.own_set OW.out (p := ⟨w.heap.size, 0, none⟩) ns _) (p := ⟨w.heap.size, 1, none⟩) ns _, fun k hk => by have := HS3.out k hk; omega, ?_, bw5⟩
      have := HFL.out
      show (Num.finL c).length ≤ _
      omega
end Go.Proofs.Ytpplojbcjgiabaa
