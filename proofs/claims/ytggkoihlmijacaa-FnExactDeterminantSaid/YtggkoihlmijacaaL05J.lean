/- The model's Determinant. -/
import Derived.Test.YtggkoihlmijacaaL02X
import Derived.Test.YtggkoihlmijacaaL02M
import Derived.Test.YtggkoihlmijacaaKB
import Derived.Test.YtggkoihlmijacaaKA
import Derived.Deep.RegionLaw
namespace Go.Proofs.Ytggkoihlmijacaa
open Go.RowKit
set_option linter.unusedVariables false
set_option linter.unusedSimpArgs false

/-- Two rows of an owned list exchanged. -/
theorem spL_swap {α : Type} {E : TypeId} {s : Sp α} {nul : α} {w : World} {S : Nat → Prop} {g n c0 : Nat} {xs : List α} (h : (spL E s nul).own w S (.slice (some ⟨g, 0, none⟩) n c0) xs) {r c : Nat} (hr : r < xs.length) (hc : c < xs.length) (hrc : c < r) {ur uc : Value} (e1 : w.cell? ⟨g, r, none⟩ = some ur) (e2 : w.cell? ⟨g, c, none⟩ = some uc) :
    (w.setCell ⟨g, r, none⟩ uc).cell? ⟨g, c, none⟩ = some uc ∧ (w.setCell ⟨g, r, none⟩ uc).frozen? ⟨g, c, none⟩ = false ∧ w.frozen? ⟨g, r, none⟩ = false ∧
      (spL E s nul).own ((w.setCell ⟨g, r, none⟩ uc).setCell ⟨g, c, none⟩ ur) S (.slice (some ⟨g, 0, none⟩) n c0) ((xs.set r (xs.getD c nul)).set c (xs.getD r nul)) := by
  obtain ⟨vs, T, h1, h2, h3, h4, h5, h6⟩ := h
  have hvl : vs.length = xs.length := by have := h1.1; simpa using this
  obtain rfl : n = xs.length := by
    obtain ⟨A', c', hv, _⟩ := ownsRow_cap h1
    simp only [Value.slice.injEq] at hv
    exact hv.2.1
  have er : vs.getD r undef = ur := by
    have a := h1.cellAt r (by omega)
    rw [e1, List.getElem?_eq_getElem (by omega)] at a
    rw [List.getD_eq_getElem?_getD, List.getElem?_eq_getElem (by omega)]
    exact (Option.some.inj a).symm
  have ec : vs.getD c undef = uc := by
    have a := h1.cellAt c (by omega)
    rw [e2, List.getElem?_eq_getElem (by omega)] at a
    rw [List.getD_eq_getElem?_getD, List.getElem?_eq_getElem (by omega)]
    exact (Option.some.inj a).symm
  have fr := h1.frozenAt r
  obtain ⟨st1, gr1⟩ := h1.stored r uc
  obtain ⟨st2, gr2⟩ := st1.stored c ur
  have dj : ∀ i j, i ≠ j → i < xs.length → j < xs.length → ∀ k, T i k → ¬ T j k := fun i j hij hi hj k a b => by
    rcases Nat.lt_or_ge i j with h | h
    · exact h3 i j h hj k a b
    · exact h3 j i (by omega) hi k b a
  refine ⟨?_, st1.frozenAt c, fr, ⟨(vs.set r uc).set c ur, fun i => if i = c then T r else if i = r then T c else T i, by simpa using st2, fun i hi => ?_, fun i j hij hj k => ?_, fun i hi k hk => ?_, h5, fun k hk => ?_⟩⟩
  · rw [st1.cellAt c (by omega), List.getElem?_set_ne (by omega), List.getElem?_eq_getElem (by omega)]
    rw [List.getD_eq_getElem?_getD, List.getElem?_eq_getElem (by omega)] at ec
    exact congrArg some ec
  · simp only [List.length_set] at hi
    rw [getD_set _ _ _ _ _ (by simpa using (by omega : c < vs.length)), getD_set _ _ _ _ _ (by omega), getD_set _ _ _ _ _ (by simpa using hc), getD_set _ _ _ _ _ hr]
    show s.own _ (if i = c then T r else if i = r then T c else T i) _ _
    have tw : ∀ j, j < xs.length → s.own ((w.setCell ⟨g, r, none⟩ uc).setCell ⟨g, c, none⟩ ur) (T j) (vs.getD j undef) (xs.getD j nul) := fun j hj =>
      s.own_set (s.own_set (h2 j hj) (p := ⟨g, r, none⟩) (fun hk => (h4 j hj g hk).2 rfl) uc) (p := ⟨g, c, none⟩) (fun hk => (h4 j hj g hk).2 rfl) ur
    by_cases a : i = c
    · rw [if_pos a, if_pos a, if_pos a]; have q := tw r hr; rw [er] at q; exact q
    · by_cases b : i = r
      · rw [if_neg a, if_neg a, if_neg a, if_pos b, if_pos b, if_pos b]; have q := tw c hc; rw [ec] at q; exact q
      · rw [if_neg a, if_neg a, if_neg a, if_neg b, if_neg b, if_neg b]; exact tw i hi
  · simp only [List.length_set] at hj
    show (if i = c then T r else if i = r then T c else T i) k → ¬ (if j = c then T r else if j = r then T c else T j) k
    by_cases a : i = c
    · rw [if_pos a, if_neg (by omega)]
      by_cases b : j = r
      · rw [if_pos b]; exact dj r c (by omega) hr hc k
      · rw [if_neg b]; exact dj r j (by omega) hr hj k
    · rw [if_neg a]
      by_cases b : i = r
      · rw [if_pos b, if_neg (by omega), if_neg (by omega)]; exact dj c j (by omega) hc hj k
      · rw [if_neg b]
        by_cases d : j = c
        · rw [if_pos d]; exact dj i r b (by omega) hr k
        · rw [if_neg d]
          by_cases d2 : j = r
          · rw [if_pos d2]; exact dj i c a (by omega) hc k
          · rw [if_neg d2]; exact dj i j (by omega) (by omega) hj k
  · simp only [List.length_set] at hi
    change (if i = c then T r else if i = r then T c else T i) k at hk
    by_cases a : i = c
    · rw [if_pos a] at hk; exact h4 r hr k hk
    · rw [if_neg a] at hk
      by_cases b : i = r
      · rw [if_pos b] at hk; exact h4 c hc k hk
      · rw [if_neg b] at hk; exact h4 i hi k hk
  · have := h6 k hk; simpa using this
set_option maxRecDepth 100000 in
set_option maxHeartbeats 3000000 in
theorem sDet_any (p : Int) (rv : Value) (rows : List (List Int)) (n : Nat) (w : World) (hr : spII.rd w rv rows) (hgp : Num.gp p = true) (hn : rows.length = n) (hrv : ∀ i, i < rows.length → Num.Vec p n (rows.getD i [])) (hrl : n ≤ 8) :
    Calls Try.prog 89 #[.int .i64 p, rv] w fun e w' => e = .returned (.int .i64 (Num.det n (Num.matF rows) % p)) ∧ Below w.heap.size w w' := by
  obtain ⟨hp1, hp2⟩ := Num.gp_le hgp
  have HOW := Lib.hid (sOwn2_any rv rows w hr (sz_bd (fun i hi => (hrv i hi).len) (by omega) (by omega)))
  obtain ⟨A, cr, rfl, -, -⟩ := hr
  rw [hn] at HOW
  by_cases hn0 : n = 0
  · subst hn0
    have HD : Hid (Num.det 0 (Num.matF rows) % p = 1) := Lib.hid (by show (1 : Int) % p = 1; exact Int.emod_eq_of_lt (by omega) (by omega))
    rw [hn]
    clear hrv HOW
    go_enter Try.func89, Try.ntmps89
    go_wp2_with (fail)
    go_ret
    exact ⟨by rw [HD.out]; rfl, Below.refl _ _⟩
  have HALL : Hid ((∀ i, i < n → Num.findRow (Num.gW p rows i) i < n) → Num.gO p rows n = Num.det n (Num.matF rows) % p) := Lib.hid fun h => Num.gauss_all hgp hn hrv h
  have HZERO : Hid (∀ c, c < n → (∀ i, i < c → Num.findRow (Num.gW p rows i) i < n) → Num.findRow (Num.gW p rows c) c = n → Num.det n (Num.matF rows) % p = 0) := Lib.hid fun c hc hf h0 => Num.gauss_zero hgp hn hrv hc hf h0
  have HGI : Hid (∀ c, c ≤ n → (∀ i, i < c → Num.findRow (Num.gW p rows i) i < n) → Num.GInv p n rows c) := Lib.hid fun c hc hf => Num.ginv hgp hn hrv c hc hf
  have HGP := Lib.hid hgp
  rw [hn]
  have hnb : (n == 0) = false := by simpa using hn0
  have hni : ¬ ((n : Int) = 0) := by omega
  have hni2 : ((n : Int) == 0) = false := by rw [beq_eq_false_iff_ne]; omega
  clear hrv hgp
  generalize Num.det n (Num.matF rows) % p = DET at *
  go_enter Try.func89, Try.ntmps89
  go_wp2_with (fail)
  refine HOW.out.mono ?_; rintro e w1 ⟨u1, S1, rfl, ow1, hS1, hb1⟩
  obtain ⟨A1, cA, rfl, -, -⟩ := spII.own_rd ow1
  obtain ⟨gA, cA0, u0, T0, q0, -⟩ := spL_own_at ow1 (j := 0) (by omega)
  simp only [Value.slice.injEq] at q0
  obtain ⟨rfl, -, -⟩ := q0
  rw [hn] at ow1
  have HO1 : Hid (spII.own w1 S1 (.slice (some ⟨gA, 0, none⟩) n cA) (Num.gW p rows 0)) := Lib.hid ow1
  have HS1 := Lib.hid hS1
  rw [hn]
  clear ow1 hS1 HOW hn
  go_wp2_with (fail)
  go_loopw [6, 7] (fun s6 s7 wr => ∃ (c : Nat) (S : Nat → Prop), s6 = .int .i64 (Num.gO p rows c) ∧ s7 = .int .i64 c ∧ c ≤ n ∧ Hid (spII.own wr S (.slice (some ⟨gA, 0, none⟩) n cA) (Num.gW p rows c)) ∧ Hid (∀ q, S q → w.heap.size ≤ q) ∧ Hid (∀ i, i < c → Num.findRow (Num.gW p rows i) i < n) ∧ Below w.heap.size w wr) (fun _ s7 _ => n - (intOf s7).toNat)
  case atStart => exact ⟨0, S1, rfl, rfl, by omega, HO1, HS1, Lib.hid (fun i hi => by omega), hb1⟩
  case round =>
    obtain ⟨c, S, rfl, rfl, hc, HO, hS, HF, bel⟩ := hrel
    clear HO1 HS1 hb1
    have G := HGI.out c hc HF.out
    have gb0 := G.lo
    have gb1 := G.hi
    by_cases hlt : c < n
    · have HGV := Lib.hid G.vec
      have HGL := Lib.hid G.len
      have HPF : Hid (∀ (hf : Num.findRow (Num.gW p rows c) c < n), (Num.pivotL (Num.gW p rows c) c).length = n ∧ (∀ i, i < n → Num.Vec p n ((Num.pivotL (Num.gW p rows c) c).getD i [])) ∧ ((Num.pivotL (Num.gW p rows c) c).getD c []).getD c 0 ≠ 0) := Lib.hid fun hf => by
        obtain ⟨a, b, -, d, -⟩ := Num.pivot_facts G hlt hf
        exact ⟨a, b, d⟩
      have HGO0 : Hid (Num.gO p rows (c + 1) = Num.gS p rows (Num.gO p rows c) c * ((Num.pivotL (Num.gW p rows c) c).getD c []).getD c 0 % p) := Lib.hid rfl
      have HGW0 : Hid ((Num.pivotL (Num.gW p rows c) c).length = n → Num.gW p rows (c + 1) = Num.uptoL (Num.elimF p (Num.pivotL (Num.gW p rows c) c) c) (Num.pivotL (Num.gW p rows c) c) (c + 1) n) := Lib.hid fun h => by
        show Num.elimAll p _ c = _
        unfold Num.elimAll
        rw [h]
      have HGS0 : Hid (Num.gS p rows (Num.gO p rows c) c = if Num.findRow (Num.gW p rows c) c = c then Num.gO p rows c else Num.neg p (Num.gO p rows c)) := Lib.hid rfl
      have HPV0 : Hid (Num.pivotL (Num.gW p rows c) c = if Num.findRow (Num.gW p rows c) c = c then Num.gW p rows c else Num.swapL (Num.gW p rows c) (Num.findRow (Num.gW p rows c) c) c) := Lib.hid rfl
      have HF0 : Hid (Num.findRow (Num.gW p rows c) c < n → ∀ i, i < c + 1 → Num.findRow (Num.gW p rows i) i < n) := Lib.hid fun h i hi => by
        by_cases e : i = c
        · rw [e]; exact h
        · exact HF.out i (by omega)
      have HZ0 := Lib.hid (HZERO.out c hlt HF.out)
      have c0 : (0 : Int) ≤ (c : Int) := by omega
      have c1 : (c : Int) < (n : Int) := by omega
      clear G HF
      generalize hWc : Num.gW p rows c = W at *
      generalize hOc : Num.gO p rows c = oc at *
      clear hWc hOc
      go_wp2_with (fail)
      go_loop [8] (fun s8 => ∃ r : Nat, s8 = .int .i64 r ∧ c ≤ r ∧ r ≤ n ∧ Hid (∀ i, c ≤ i → i < r → (W.getD i []).getD c 0 = 0)) (fun s8 => n - (intOf s8).toNat)
      case atStart => exact ⟨c, rfl, Nat.le_refl _, hc, Lib.hid fun i h1 h2 => by omega⟩
      case round =>
        obtain ⟨r, rfl, hr1, hr2, HZ⟩ := hrel
        by_cases hltr : r < n
        · obtain ⟨g1, cg1, ur, Tr, q1, hSg, hgl, hcr, hfr, hur, -, -⟩ := spL_own_at HO.out (j := r) (by rw [HGL.out]; exact hltr)
          simp only [Value.slice.injEq, Option.some.injEq, Addr.mk.injEq, and_true, true_and] at q1
          obtain ⟨rfl, -, rfl⟩ := q1
          have VR := HGV.out r hltr
          have rl1 : (W.getD r []).length ≤ n := Nat.le_of_eq VR.len
          have rl2 : n ≤ (W.getD r []).length := Nat.le_of_eq VR.len.symm
          obtain ⟨gur, cur, q2, -, hgur, har, -⟩ := spI_own_at hur (j := c) (by omega)
          subst q2
          have r0 : (0 : Int) ≤ (r : Int) := by omega
          have r1 : (r : Int) < (n : Int) := by omega
          have rc : (c : Int) < ((W.getD r []).length : Int) := by omega
          by_cases hy : (W.getD r []).getD c 0 = 0
          · have HZ1 : Hid (∀ i, c ≤ i → i < r + 1 → (W.getD i []).getD c 0 = 0) := Lib.hid fun i h1 h2 => by
              by_cases e : i = r
              · rw [e]; exact hy
              · exact HZ.out i h1 (by omega)
            rw [hy] at har
            clear hy VR hur
            generalize (W.getD r []).length = lr at *
            go_wp2_with (fail)
            exact ⟨⟨r + 1, by go_num, by omega, by omega, HZ1⟩, by simp [intOf]; omega⟩
          · have HFR : Hid (Num.findRow W c = r) := Lib.hid (Num.findRow_eq hr1 (by rw [HGL.out]; exact hr2) HZ.out fun _ => hy)
            have hfn : Num.findRow W c < n := by rw [HFR.out]; exact hltr
            have HF1 := Lib.hid (HF0.out hfn)
            obtain ⟨pf1, pf2, pf3⟩ := HPF.out hfn
            have HPL := Lib.hid pf1
            have HPV := Lib.hid pf2
            have HPN := Lib.hid pf3
            have HGW := Lib.hid (HGW0.out pf1)
            have hy' : (W.getD r []).getD c 0 ≠ 0 := hy
            have hyb : ((W.getD r []).getD c 0 == 0) = false := by simpa using hy
            have HI0 := HZ
            rw [HFR.out] at HPV0 HGS0
            have hrn : ((r : Int) == (n : Int)) = false := by rw [beq_eq_false_iff_ne]; omega
            clear pf1 pf2 pf3 hfn hy HPF HF0 HZ0 HGW0 HZ VR HZERO
            by_cases hrc : r = c
            · rw [if_pos hrc] at HPV0 HGS0
              rw [HPV0.out] at HPL HPV HPN HGW HGO0
              rw [HGS0.out] at HGO0
              have gs0 := gb0
              have gs1 := gb1
              have HGO := HGO0
              have hrc2 := hrc.symm
              clear hrc
              subst hrc2
              clear HPV0 HGS0 HGO0 hcr hfr hur
              clear HFR HGL HGV
              generalize hPV : W = PV at *
              clear hPV
              generalize hgo : oc = go at *
              clear hgo
              generalize (PV.getD c []).length = lr at *
              obtain ⟨g1, cg1, u1, T1, q1, hSg, hgl, hcc, -, hu1, -, -⟩ := spL_own_at HO.out (j := c) (by rw [HPL.out]; exact hlt)
              simp only [Value.slice.injEq, Option.some.injEq, Addr.mk.injEq, and_true, true_and] at q1
              obtain ⟨rfl, -, rfl⟩ := q1
              have PVC := HPV.out c hlt
              have pl1 : (PV.getD c []).length ≤ n := Nat.le_of_eq PVC.len
              have pl2 : n ≤ (PV.getD c []).length := Nat.le_of_eq PVC.len.symm
              obtain ⟨gu1, cu1, q2, hTg1, hgu1, ha1, -⟩ := spI_own_at hu1 (j := c) (by omega)
              subst q2
              have e0 := PVC.lo c
              have e1 := PVC.hi c
              have HNE := HPN.out
              have em : (PV.getD c []).getD c 0 % p = (PV.getD c []).getD c 0 := Int.emod_eq_of_lt e0 e1
              obtain ⟨bz0, bz1, -⟩ := Num.bez_inv e0 e1 (Num.gp_gcd HGP.out (by omega) e1)
              have HI := sInv_any ((PV.getD c []).getD c 0) p wr HGP.out (by rw [em]; exact HNE)
              rw [em] at HI
              have HI := Lib.hid HI
              obtain ⟨mb0, mb1⟩ := cy_bd gs0 (by omega : go ≤ 1000) e0 e1 hp2
              have htm : Int.tmod (go * (PV.getD c []).getD c 0) p = Num.gO p rows (c + 1) := by rw [Int.tmod_eq_emod_of_nonneg mb0, HGO.out]
              have HCL : Hid ((PV.getD c []).length = n) := Lib.hid PVC.len
              have HELF : Hid (∀ i, Num.elimF p PV c i = Num.addV p (p - (PV.getD i []).getD c 0 * Num.bez ((PV.getD c []).getD c 0) p % p) (PV.getD i []) (PV.getD c [])) := Lib.hid fun i => rfl
              have bzb : Num.bez ((PV.getD c []).getD c 0) p ≤ 1000 := by omega
              have HVC := Lib.hid PVC
              have hpne : p ≠ 0 := by omega
              have HOS := Lib.hid (by rw [← Num.uptoL_start (Num.elimF p PV c) PV (c + 1)] at HO; exact HO.out)
              clear HO HI0 hu1 PVC em HNE hSg hTg1
              generalize hbz : Num.bez ((PV.getD c []).getD c 0) p = bz at *
              clear hbz
              generalize (PV.getD c []).getD c 0 = ent at *
              generalize hcl : (PV.getD c []).length = lc at *
              have HCL3 : Hid ((PV.getD c []).length = n) := Lib.hid (by rw [hcl]; exact HCL.out)
              clear hcl
              go_wp2_with (fail)
              refine HI.out.mono ?_; rintro e' w5 ⟨rfl, rfl⟩
              clear HI htm ha1 hcc mb0 mb1 hgl hgu1
              go_wp2_with (fail)
              generalize wr = W0 at *
              go_loopw [11] (fun s11 wr => ∃ (k : Nat) (S : Nat → Prop), s11 = .int .i64 k ∧ c + 1 ≤ k ∧ k ≤ n ∧ Hid (spII.own wr S (.slice (some ⟨gA, 0, none⟩) n cA) (Num.uptoL (Num.elimF p PV c) PV (c + 1) k)) ∧ Hid (∀ q, S q → w.heap.size ≤ q) ∧ Below w.heap.size w wr) (fun s11 _ => n - (intOf s11).toNat)
              case atStart => exact ⟨c + 1, S, by go_num, by omega, by omega, HOS, hS, bel⟩
              case round =>
                obtain ⟨k, S, rfl, hk1, hk2, HO, hS, bel⟩ := hrel
                clear HOS
                by_cases hltk : k < n
                · have hlu : (Num.uptoL (Num.elimF p PV c) PV (c + 1) k).length = n := by rw [Num.uptoL_length]; exact HPL.out
                  have gk : (Num.uptoL (Num.elimF p PV c) PV (c + 1) k).getD k [] = PV.getD k [] := by rw [Num.uptoL_get _ _ _ _ (by rw [HPL.out]; exact hltk), if_neg (by omega)]
                  have gc : (Num.uptoL (Num.elimF p PV c) PV (c + 1) k).getD c [] = PV.getD c [] := by rw [Num.uptoL_get _ _ _ _ (by rw [HPL.out]; exact hlt), if_neg (by omega)]
                  obtain ⟨g1, cg1, uk, Tk, q1, hSg, hgl, hck, hfk, huk, -, -⟩ := spL_own_at HO.out (j := k) (by omega)
                  simp only [Value.slice.injEq, Option.some.injEq, Addr.mk.injEq, and_true, true_and] at q1
                  obtain ⟨rfl, -, rfl⟩ := q1
                  obtain ⟨g2, cg2, uc, Tc, q2, -, -, hcc, -, huc, -, -⟩ := spL_own_at HO.out (j := c) (by omega)
                  simp only [Value.slice.injEq, Option.some.injEq, Addr.mk.injEq, and_true, true_and] at q2
                  obtain ⟨rfl, -, -⟩ := q2
                  rw [gk] at huk
                  rw [gc] at huc
                  have VK := HPV.out k hltk
                  have vl1 : (PV.getD k []).length ≤ n := Nat.le_of_eq VK.len
                  have vl2 : n ≤ (PV.getD k []).length := Nat.le_of_eq VK.len.symm
                  obtain ⟨guk, cuk, q3, -, hguk, hak, -⟩ := spI_own_at huk (j := c) (by omega)
                  subst q3
                  obtain ⟨Buc, cuc, q4, -, -⟩ := spI_form (spI.own_rd huc)
                  rw [HCL3.out] at q4
                  subst q4
                  have f0 := VK.lo c
                  have f1 := VK.hi c
                  obtain ⟨nb0, nb1⟩ := cy_bd (c := bz) (y := (PV.getD k []).getD c 0) (p := p) bz0 bzb f0 f1 hp2
                  rw [Int.mul_comm] at nb0 nb1
                  have ntm : Int.tmod ((PV.getD k []).getD c 0 * bz) p = (PV.getD k []).getD c 0 * bz % p := Int.tmod_eq_emod_of_nonneg nb0
                  have mbd := Num.mod_bd ((PV.getD k []).getD c 0 * bz) (m := p) (by omega)
                  have HA := Lib.hid (sAdd_any p (p - (PV.getD k []).getD c 0 * bz % p) _ _ (PV.getD k []) (PV.getD c []) n wr.drew (spI.rd_drew (spI.own_rd huk)) (spI.rd_drew (spI.own_rd huc)) (by omega) hp2 (by omega) (by omega) VK HVC.out (by omega))
                  have HST : Hid ((Num.uptoL (Num.elimF p PV c) PV (c + 1) k).set k (Num.addV p (p - (PV.getD k []).getD c 0 * bz % p) (PV.getD k []) (PV.getD c [])) = Num.uptoL (Num.elimF p PV c) PV (c + 1) (k + 1)) := Lib.hid (by rw [← HELF.out k]; exact Num.uptoL_step _ _ (by omega) (by rw [HPL.out]; exact hltk))
                  have HUL : Hid (k < (Num.uptoL (Num.elimF p PV c) PV (c + 1) k).length) := Lib.hid (by omega)
                  have k0 : (0 : Int) ≤ (k : Int) := by omega
                  have k1 : (k : Int) < (n : Int) := by omega
                  have kc : (c : Int) < ((PV.getD k []).length : Int) := by omega
                  have HL0 : Hid ((PV.getD k []).length = n) := Lib.hid VK.len
                  have HD := Lib.hid (spII.own_drew HO.out)

                  have wr1 : IntKind.i64.wrap ((PV.getD k []).getD c 0 * bz) = (PV.getD k []).getD c 0 * bz := IntWalk.i64_in _ (by omega)
                  have wr2 : IntKind.i64.wrap (p - (PV.getD k []).getD c 0 * bz % p) = p - (PV.getD k []).getD c 0 * bz % p := IntWalk.i64_in _ (by omega)
                  clear hlu gk gc huk huc VK
                  generalize hav : Num.addV p (p - (PV.getD k []).getD c 0 * bz % p) (PV.getD k []) (PV.getD c []) = av at *
                  clear hav
                  generalize (PV.getD k []).getD c 0 = ek at *
                  generalize hkl : (PV.getD k []).length = lk at *
                  clear hkl
                  go_wp2_with (fail)
                  go_region_law (first | (go_simp; go_at_call 101; refine (HA.out).mono ?_; rintro e2 w2 ⟨u2, S2, rfl, ow2, hS2, hb2⟩; obtain ⟨U2, cU2, rfl, -, -⟩ := spI_form (spI.own_rd ow2); obtain ⟨⟨ov, hov⟩, hfz, st1, st2⟩ := spL_put HD.out HUL.out hb2 ow2 hS2))
                  all_goals
                    rw [HST.out] at st1
                    have O3 := Lib.hid st1
                    have hws := bel.size
                    have b2 : Below w.heap.size w w2 := bstep bel bel.size (((Below.refl _ _).drew).trans hb2)
                    have hsg := hS.out _ hSg
                    have HS3 : Hid (∀ q, (S q ∨ S2 q) → w.heap.size ≤ q) := Lib.hid fun q hq => by
                      rcases hq with h | h
                      · exact hS.out q h
                      · have h9 := hS2 q h
                        have : wr.drew.heap.size = wr.heap.size := rfl
                        omega
                    have b3 := below_set b2 hsg k (.slice U2 av.length cU2)
                    clear st1 st2 ow2 hS2 hb2 HD HO hov hfz b2 bel
                    go_wp2_with (fail)
                    exact ⟨⟨k + 1, _, by go_num, by omega, by omega, O3, HS3, b3⟩, by simp [intOf]; omega⟩
                · obtain rfl : k = n := by omega
                  have hge : ¬ ((k : Int) < (k : Int)) := by omega
                  rw [← HGW.out] at HO
                  go_wp2_with (fail)
                  exact ⟨⟨c + 1, S, by first | rfl | go_num, by first | rfl | go_num, by omega, HO, hS, HF1, bel⟩, by simp [intOf]; omega⟩
            · rw [if_neg hrc] at HPV0 HGS0
              rw [HPV0.out] at HPL HPV HPN HGW HGO0
              rw [HGS0.out] at HGO0
              obtain ⟨g2, cg2, uc, Tc, q3, -, -, hcc, hfc, huc, -, -⟩ := spL_own_at HO.out (j := c) (by rw [HGL.out]; exact hlt)
              simp only [Value.slice.injEq, Option.some.injEq, Addr.mk.injEq, and_true, true_and] at q3
              obtain ⟨rfl, -, rfl⟩ := q3
              obtain ⟨Buc, cuc, q4, -, -⟩ := spI_form (spI.own_rd huc)
              subst q4
              obtain ⟨sw1, sw2, sw3, sw4⟩ := spL_swap HO.out (r := r) (c := c) (by rw [HGL.out]; exact hltr) (by rw [HGL.out]; exact hlt) (by omega) (ur := .slice (some ⟨gur, 0, none⟩) (W.getD r []).length cur) (uc := .slice Buc (W.getD c []).length cuc) hcr hcc
              have HSW := Lib.hid sw4
              clear sw4 HPV0 HGS0 huc hur HO
              generalize hPV : Num.swapL W r c = PV at *
              generalize (W.getD r []).length = lr at *
              generalize (W.getD c []).length = lc0 at *
              generalize (W.getD r []).getD c 0 = er at *
              have HO3 : Hid (spII.own ((wr.setCell ⟨gA, r, none⟩ (.slice Buc lc0 cuc)).setCell ⟨gA, c, none⟩ (.slice (some ⟨gur, 0, none⟩) lr cur)) S (.slice (some ⟨gA, 0, none⟩) n cA) PV) := Lib.hid (by rw [← hPV]; exact HSW.out)
              have bel3 := below_set (below_set bel (hS.out _ hSg) r (.slice Buc lc0 cuc)) (hS.out _ hSg) c (.slice (some ⟨gur, 0, none⟩) lr cur)
              have HM := Lib.hid (sMod_any (-oc) p ((wr.setCell ⟨gA, r, none⟩ (.slice Buc lc0 cuc)).setCell ⟨gA, c, none⟩ (.slice (some ⟨gur, 0, none⟩) lr cur)) (by omega) (by omega))
              have wn : IntKind.i64.wrap (-oc) = -oc := IntWalk.i64_in _ (by omega)
              clear HSW hPV
              go_wp2_with (fail)
              clear bel har hcr hcc hfr hfc sw1 sw2 sw3 hgl hgur wn hSg
              generalize ((wr.setCell ⟨gA, r, none⟩ (.slice Buc lc0 cuc)).setCell ⟨gA, c, none⟩ (.slice (some ⟨gur, 0, none⟩) lr cur)) = W3 at *
              refine HM.out.mono ?_; rintro e' w5 ⟨rfl, rfl⟩
              clear HM
              have gs0 : 0 ≤ -oc % p := (Num.mod_bd (-oc) (m := p) (by omega)).1
              have gs1 : -oc % p < p := (Num.mod_bd (-oc) (m := p) (by omega)).2
              have HGO : Hid (Num.gO p rows (c + 1) = (-oc % p) * (PV.getD c []).getD c 0 % p) := HGO0
              have HO := HO3
              have bel := bel3
              clear HGO0 HO3 bel3
              generalize hgo : -oc % p = go at *
              clear hgo gb0 gb1
              obtain ⟨g1, cg1, u1, T1, q1, hSg, hgl, hcc, -, hu1, -, -⟩ := spL_own_at HO.out (j := c) (by rw [HPL.out]; exact hlt)
              simp only [Value.slice.injEq, Option.some.injEq, Addr.mk.injEq, and_true, true_and] at q1
              obtain ⟨rfl, -, rfl⟩ := q1
              have PVC := HPV.out c hlt
              have pl1 : (PV.getD c []).length ≤ n := Nat.le_of_eq PVC.len
              have pl2 : n ≤ (PV.getD c []).length := Nat.le_of_eq PVC.len.symm
              obtain ⟨gu1, cu1, q2, hTg1, hgu1, ha1, -⟩ := spI_own_at hu1 (j := c) (by omega)
              subst q2
              have e0 := PVC.lo c
              have e1 := PVC.hi c
              have HNE := HPN.out
              have em : (PV.getD c []).getD c 0 % p = (PV.getD c []).getD c 0 := Int.emod_eq_of_lt e0 e1
              obtain ⟨bz0, bz1, -⟩ := Num.bez_inv e0 e1 (Num.gp_gcd HGP.out (by omega) e1)
              have HI := sInv_any ((PV.getD c []).getD c 0) p W3 HGP.out (by rw [em]; exact HNE)
              rw [em] at HI
              have HI := Lib.hid HI
              obtain ⟨mb0, mb1⟩ := cy_bd gs0 (by omega : go ≤ 1000) e0 e1 hp2
              have htm : Int.tmod (go * (PV.getD c []).getD c 0) p = Num.gO p rows (c + 1) := by rw [Int.tmod_eq_emod_of_nonneg mb0, HGO.out]
              have HCL : Hid ((PV.getD c []).length = n) := Lib.hid PVC.len
              have HELF : Hid (∀ i, Num.elimF p PV c i = Num.addV p (p - (PV.getD i []).getD c 0 * Num.bez ((PV.getD c []).getD c 0) p % p) (PV.getD i []) (PV.getD c [])) := Lib.hid fun i => rfl
              have bzb : Num.bez ((PV.getD c []).getD c 0) p ≤ 1000 := by omega
              have HVC := Lib.hid PVC
              have hpne : p ≠ 0 := by omega
              have HOS := Lib.hid (by rw [← Num.uptoL_start (Num.elimF p PV c) PV (c + 1)] at HO; exact HO.out)
              clear HO HI0 hu1 PVC em HNE hSg hTg1
              generalize hbz : Num.bez ((PV.getD c []).getD c 0) p = bz at *
              clear hbz
              generalize (PV.getD c []).getD c 0 = ent at *
              generalize hcl : (PV.getD c []).length = lc at *
              have HCL3 : Hid ((PV.getD c []).length = n) := Lib.hid (by rw [hcl]; exact HCL.out)
              clear hcl
              go_wp2_with (fail)
              refine HI.out.mono ?_; rintro e' w5 ⟨rfl, rfl⟩
              clear HI htm ha1 hcc mb0 mb1 hgl hgu1
              go_wp2_with (fail)
              generalize W3 = W0 at *
              go_loopw [11] (fun s11 wr => ∃ (k : Nat) (S : Nat → Prop), s11 = .int .i64 k ∧ c + 1 ≤ k ∧ k ≤ n ∧ Hid (spII.own wr S (.slice (some ⟨gA, 0, none⟩) n cA) (Num.uptoL (Num.elimF p PV c) PV (c + 1) k)) ∧ Hid (∀ q, S q → w.heap.size ≤ q) ∧ Below w.heap.size w wr) (fun s11 _ => n - (intOf s11).toNat)
              case atStart => exact ⟨c + 1, S, by go_num, by omega, by omega, HOS, hS, bel⟩
              case round =>
                obtain ⟨k, S, rfl, hk1, hk2, HO, hS, bel⟩ := hrel
                clear HOS
                by_cases hltk : k < n
                · have hlu : (Num.uptoL (Num.elimF p PV c) PV (c + 1) k).length = n := by rw [Num.uptoL_length]; exact HPL.out
                  have gk : (Num.uptoL (Num.elimF p PV c) PV (c + 1) k).getD k [] = PV.getD k [] := by rw [Num.uptoL_get _ _ _ _ (by rw [HPL.out]; exact hltk), if_neg (by omega)]
                  have gc : (Num.uptoL (Num.elimF p PV c) PV (c + 1) k).getD c [] = PV.getD c [] := by rw [Num.uptoL_get _ _ _ _ (by rw [HPL.out]; exact hlt), if_neg (by omega)]
                  obtain ⟨g1, cg1, uk, Tk, q1, hSg, hgl, hck, hfk, huk, -, -⟩ := spL_own_at HO.out (j := k) (by omega)
                  simp only [Value.slice.injEq, Option.some.injEq, Addr.mk.injEq, and_true, true_and] at q1
                  obtain ⟨rfl, -, rfl⟩ := q1
                  obtain ⟨g2, cg2, uc, Tc, q2, -, -, hcc, -, huc, -, -⟩ := spL_own_at HO.out (j := c) (by omega)
                  simp only [Value.slice.injEq, Option.some.injEq, Addr.mk.injEq, and_true, true_and] at q2
                  obtain ⟨rfl, -, -⟩ := q2
                  rw [gk] at huk
                  rw [gc] at huc
                  have VK := HPV.out k hltk
                  have vl1 : (PV.getD k []).length ≤ n := Nat.le_of_eq VK.len
                  have vl2 : n ≤ (PV.getD k []).length := Nat.le_of_eq VK.len.symm
                  obtain ⟨guk, cuk, q3, -, hguk, hak, -⟩ := spI_own_at huk (j := c) (by omega)
                  subst q3
                  obtain ⟨Buc, cuc, q4, -, -⟩ := spI_form (spI.own_rd huc)
                  rw [HCL3.out] at q4
                  subst q4
                  have f0 := VK.lo c
                  have f1 := VK.hi c
                  obtain ⟨nb0, nb1⟩ := cy_bd (c := bz) (y := (PV.getD k []).getD c 0) (p := p) bz0 bzb f0 f1 hp2
                  rw [Int.mul_comm] at nb0 nb1
                  have ntm : Int.tmod ((PV.getD k []).getD c 0 * bz) p = (PV.getD k []).getD c 0 * bz % p := Int.tmod_eq_emod_of_nonneg nb0
                  have mbd := Num.mod_bd ((PV.getD k []).getD c 0 * bz) (m := p) (by omega)
                  have HA := Lib.hid (sAdd_any p (p - (PV.getD k []).getD c 0 * bz % p) _ _ (PV.getD k []) (PV.getD c []) n wr.drew (spI.rd_drew (spI.own_rd huk)) (spI.rd_drew (spI.own_rd huc)) (by omega) hp2 (by omega) (by omega) VK HVC.out (by omega))
                  have HST : Hid ((Num.uptoL (Num.elimF p PV c) PV (c + 1) k).set k (Num.addV p (p - (PV.getD k []).getD c 0 * bz % p) (PV.getD k []) (PV.getD c [])) = Num.uptoL (Num.elimF p PV c) PV (c + 1) (k + 1)) := Lib.hid (by rw [← HELF.out k]; exact Num.uptoL_step _ _ (by omega) (by rw [HPL.out]; exact hltk))
                  have HUL : Hid (k < (Num.uptoL (Num.elimF p PV c) PV (c + 1) k).length) := Lib.hid (by omega)
                  have k0 : (0 : Int) ≤ (k : Int) := by omega
                  have k1 : (k : Int) < (n : Int) := by omega
                  have kc : (c : Int) < ((PV.getD k []).length : Int) := by omega
                  have HL0 : Hid ((PV.getD k []).length = n) := Lib.hid VK.len
                  have HD := Lib.hid (spII.own_drew HO.out)

                  have wr1 : IntKind.i64.wrap ((PV.getD k []).getD c 0 * bz) = (PV.getD k []).getD c 0 * bz := IntWalk.i64_in _ (by omega)
                  have wr2 : IntKind.i64.wrap (p - (PV.getD k []).getD c 0 * bz % p) = p - (PV.getD k []).getD c 0 * bz % p := IntWalk.i64_in _ (by omega)
                  clear hlu gk gc huk huc VK
                  generalize hav : Num.addV p (p - (PV.getD k []).getD c 0 * bz % p) (PV.getD k []) (PV.getD c []) = av at *
                  clear hav
                  generalize (PV.getD k []).getD c 0 = ek at *
                  generalize hkl : (PV.getD k []).length = lk at *
                  clear hkl
                  go_wp2_with (fail)
                  go_region_law (first | (go_simp; go_at_call 101; refine (HA.out).mono ?_; rintro e2 w2 ⟨u2, S2, rfl, ow2, hS2, hb2⟩; obtain ⟨U2, cU2, rfl, -, -⟩ := spI_form (spI.own_rd ow2); obtain ⟨⟨ov, hov⟩, hfz, st1, st2⟩ := spL_put HD.out HUL.out hb2 ow2 hS2))
                  all_goals
                    rw [HST.out] at st1
                    have O3 := Lib.hid st1
                    have hws := bel.size
                    have b2 : Below w.heap.size w w2 := bstep bel bel.size (((Below.refl _ _).drew).trans hb2)
                    have hsg := hS.out _ hSg
                    have HS3 : Hid (∀ q, (S q ∨ S2 q) → w.heap.size ≤ q) := Lib.hid fun q hq => by
                      rcases hq with h | h
                      · exact hS.out q h
                      · have h9 := hS2 q h
                        have : wr.drew.heap.size = wr.heap.size := rfl
                        omega
                    have b3 := below_set b2 hsg k (.slice U2 av.length cU2)
                    clear st1 st2 ow2 hS2 hb2 HD HO hov hfz b2 bel
                    go_wp2_with (fail)
                    exact ⟨⟨k + 1, _, by go_num, by omega, by omega, O3, HS3, b3⟩, by simp [intOf]; omega⟩
                · obtain rfl : k = n := by omega
                  have hge : ¬ ((k : Int) < (k : Int)) := by omega
                  rw [← HGW.out] at HO
                  go_wp2_with (fail)
                  exact ⟨⟨c + 1, S, by first | rfl | go_num, by first | rfl | go_num, by omega, HO, hS, HF1, bel⟩, by simp [intOf]; omega⟩
        · obtain rfl : r = n := by omega
          have HDZ := Lib.hid (HZ0.out (Num.findRow_eq hr1 (by rw [HGL.out]; exact Nat.le_refl _) HZ.out fun h => absurd h (by rw [HGL.out]; omega)))
          have hge : ¬ ((r : Int) < (r : Int)) := by omega
          go_wp2_with (fail)
          go_ret
          exact ⟨by rw [HDZ.out]; rfl, bel⟩
    · obtain rfl : c = n := by omega
      have hge : ¬ ((c : Int) < (c : Int)) := by omega
      have HD := Lib.hid (HALL.out HF.out)
      clear G
      go_wp2_with (fail)
      go_ret
      exact ⟨by rw [HD.out]; rfl, bel⟩
end Go.Proofs.Ytggkoihlmijacaa
