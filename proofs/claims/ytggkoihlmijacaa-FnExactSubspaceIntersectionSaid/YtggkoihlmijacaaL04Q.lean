/- The model's l03Meet. -/
import Derived.Test.YtggkoihlmijacaaL04P
import Derived.Test.YtggkoihlmijacaaL02K
namespace Go.Proofs.Ytggkoihlmijacaa
open Go.RowKit
set_option linter.unusedVariables false
set_option linter.unusedSimpArgs false

/-- The rows of the intersection before they are reduced, the first j. -/
noncomputable def Num.meetTo (p : Int) (u N : List (List Int)) (C j : Nat) : List (List Int) := (N.take j).map fun z => Num.timesV p (z.take u.length) u C
theorem Num.meetTo_step {p : Int} {u N : List (List Int)} {C j : Nat} (h : j < N.length) : Num.meetTo p u N C (j + 1) = Num.meetTo p u N C j ++ [Num.timesV p ((N.getD j []).take u.length) u C] := by
  unfold Num.meetTo
  rw [List.take_succ_eq_append_getElem h, List.map_append]
  simp [h]
theorem Num.meetTo_len {p : Int} {u N : List (List Int)} {C j : Nat} (h : j ≤ N.length) : (Num.meetTo p u N C j).length = j := by simp [Num.meetTo]; omega
set_option maxRecDepth 100000 in
set_option maxHeartbeats 2000000 in
theorem sMeet_any (p C' : Int) (uv vv : Value) (u v : List (List Int)) (C : Nat) (w : World) (hu : spII.rd w uv u) (hv : spII.rd w vv v) (hgp : Num.gp p = true) (eu : Num.Ech p C u) (ev : Num.Ech p C v) (hul : u.length ≤ 8) (hvl : v.length ≤ 8) (hC : C ≤ 8) (eC : C' = (C : Int)) (hz : spII.sz u ≤ 1048576) :
    Calls Try.prog 68 #[.int .i64 p, uv, vv, .int .i64 C'] w (Made spII (Num.reduceR p (Num.prodR p (Num.preR p v u C) u C)) w) := by
  subst eC
  obtain ⟨hp1, hp2⟩ := Num.gp_le hgp
  obtain ⟨i0, hi, hz0, hz1, hz2⟩ := info_parts infoII
  have hu0 := hu
  obtain ⟨Au, cu0, rfl, -, -⟩ := hu0
  have hv0 := hv
  obtain ⟨Av, cv0, rfl, -, -⟩ := hv0
  have RU := Lib.hid hu
  have RV := Lib.hid hv
  have va := eu.vecs
  have vu := ev.vecs
  have hvv := Num.vecs_app va vu
  have nv := Num.null_app_vecs hgp vu va
  have me := Num.meet_eq hgp ev eu
  have wl := Num.wide_len hgp (fun i hi => hvv.at_ hi)
  rw [List.length_append] at wl
  have nl : (Num.nullR p (u ++ v) C).length ≤ 16 := by rw [Num.null_length]; omega
  have HNP : Hid (0 < (Num.nullR p (u ++ v) C).length → 0 < u.length + v.length) := Lib.hid fun h => by rw [Num.null_length] at h; omega
  have HNV : Hid (∀ j, j < (Num.nullR p (u ++ v) C).length → Num.Vec p (u.length + v.length) ((Num.nullR p (u ++ v) C).getD j [])) := Lib.hid fun j hj => nv.at_ hj
  have HOZ := Lib.hid hz
  have H1 : Hid (∀ W x, spII.rd W x (u ++ v) → Calls Try.prog 69 #[.int .i64 p, x, .int .i64 (C : Int)] W (Made spII (Num.nullR p (u ++ v) C) W)) := Lib.hid fun W x hx => sNull_at p _ x _ C W hx hgp (fun i hi => hvv.at_ hi) (by omega) (by rw [List.length_append]; omega) rfl
  have H2 : Hid (∀ W x z, spII.rd W z u → Num.Vec p u.length x → ∀ xv, spI.rd W xv x → Calls Try.prog 108 #[.int .i64 p, xv, z, .int .i64 (C : Int)] W (Made spI (Num.timesV p x u C) W)) := Lib.hid fun W x z hz hx xv hxv => sTimes_any p xv z x u C u.length W hz hxv hp1 hp2 (fun i hi => va.at_ hi) hx rfl (by omega) (by omega)
  have H3 : Hid (∀ W x, spII.rd W x (Num.meetTo p u (Num.nullR p (u ++ v) C) C (Num.nullR p (u ++ v) C).length) → Calls Try.prog 45 #[.int .i64 p, x] W (Made spII (Num.reduceR p (Num.prodR p (Num.preR p v u C) u C)) W)) := Lib.hid fun W x hx => by
    have := sReduce_any p x _ C W hx hgp (fun i hi => by
      rw [Num.meetTo_len (Nat.le_refl _)] at hi
      unfold Num.meetTo
      rw [List.take_length, Num.map_getD hi]
      exact Num.timesV_vec (by omega)) (by omega) (by rw [Num.meetTo_len (Nat.le_refl _)]; omega)
    unfold Num.meetTo at this
    rw [List.take_length, me] at this
    exact this
  clear hu hv va vu hvv nv me wl eu ev hz
  generalize Num.reduceR p (Num.prodR p (Num.preR p v u C) u C) = RE at *
  generalize Num.nullR p (u ++ v) C = N at *
  go_enter Try.func68, Try.ntmps68
  go_wp2_with (fail)
  refine (sOwn2_any _ u _ RU.out HOZ.out).mono ?_; rintro e w1 ⟨uo, So, rfl, owo, hSo, hbo⟩
  obtain ⟨Ao, co, rfl, -, -⟩ := spII.own_rd owo
  have L1 := hbo
  obtain ⟨vs, news, a1, a2, a3, a4, a5, a6⟩ := Bag.append (w0 := w) (s := spI) (nul := []) one_spI (Bag.of_own (B := w.heap.size) owo (fun k h => hSo k h)) hbo RV.out
  go_wp2_with (first | (at_builtin; refine wpList_append_list _ rfl _ _ 22 rfl w.heap.size 31 i0 (.slice none 0 0) 24 Try.underlying22 hi hz0 hz1 hz2 rfl (.slice Ao u.length co) u.length vs rfl a1 Av v.length cv0 news a2 rfl a3 a4 (by unfold maxLen; omega) (by omega) hbo.size ?_; intro va w2 owna gra ata))
  obtain ⟨bag, LC2⟩ := a6 va w2 owna gra ata
  obtain ⟨Aa, ca, hva⟩ := bag.form
  rw [List.length_append] at hva
  subst hva
  have HB := Lib.hid (Bag.rdII bag)
  clear owna gra ata a1 a2 a3 a4 a5 a6 bag L1 hbo owo hSo
  go_wp2_with (fail)
  refine (H1.out _ _ HB.out).mono ?_; rintro e w3 ⟨un, Sn, rfl, own, hSn, hbn⟩
  obtain ⟨An, cn, rfl, -, -⟩ := spII.own_rd own
  have L3 := bstep LC2 LC2.size hbn
  have HN := Lib.hid own
  clear own hSn hbn HB LC2 H1
  replace RU := Lib.hid (spII.rd_below RU.out L3)
  go_wp2_with (fail)
  go_loopw [10, 11] (fun s10 s11 wr => ∃ (j : Nat) (S : Nat → Prop), s11 = .int .i64 j ∧ j ≤ N.length ∧ Hid (spII.own wr S s10 (Num.meetTo p u N C j)) ∧ Hid (∀ k, S k → w3.heap.size ≤ k) ∧ Below w3.heap.size w3 wr) (fun _ s11 _ => N.length - (intOf s11).toNat)
  case atStart => exact ⟨0, _, rfl, by omega, Lib.hid (by rw [show Num.meetTo p u N C 0 = [] by simp [Num.meetTo]]; exact spL_empty _ _ _ _), Lib.hid (fun k hk => by omega), by go_grown⟩
  case round =>
    obtain ⟨j, S, rfl, hj, HO, hS, bel⟩ := hrel
    by_cases hlt : j < N.length
    · obtain ⟨gz, cz, x, T, e1, -, hgl, hcz, -, hx, -, -⟩ := spL_own_at (spII.own_below HN.out bel) hlt
      simp only [Value.slice.injEq] at e1
      obtain ⟨rfl, -, rfl⟩ := e1
      have V := HNV.out j hlt
      have vl := V.len
      have vp := HNP.out (by omega)
      obtain ⟨gu, cu, rfl, hcap, hcm, hgu, -⟩ := spI_own_cap hx (by omega)
      unfold maxLen at hcm
      have HUO : Hid (spI.rd wr (.slice (some ⟨gu, 0, none⟩) u.length cu) ((N.getD j []).take u.length)) := Lib.hid (spI_rd_take (spI.own_rd hx) (by omega))
      have HT := Lib.hid (H2.out wr _ _ (spII.rd_below RU.out bel) (Vec_take_ hgp V) _ HUO.out)
      have j0 : (0 : Int) ≤ (j : Int) := by omega
      have j1 : (j : Int) < (N.length : Int) := by omega
      have cc0 : (0 : Int) ≤ (u.length : Int) := by omega
      have cc1 : (u.length : Int) ≤ (cu : Int) := by omega
      have cc2 : u.length ≤ cu := by omega
      have cc3 : ¬ (cu = 0) := by omega
      have ET := Lib.hid (Num.meetTo_step (p := p) (u := u) (C := C) hlt)
      have hml := Num.meetTo_len (p := p) (u := u) (C := C) hj
      obtain ⟨A', c', e9, -⟩ := spII.own_rd HO.out
      rw [hml] at e9
      subst e9
      have HLJ := Lib.hid hml
      clear V vl vp hx hcap HUO hml
      generalize Num.timesV p ((N.getD j []).take u.length) u C = x at *
      generalize (N.getD j []).length = ln at *
      go_wp2_with (fail)
      refine HT.out.mono ?_; rintro e' w2 ⟨u2, S2, rfl, ow2, hS2, hb2⟩
      obtain ⟨U, cU, rfl, -, -⟩ := spI_form (spI.own_rd ow2)
      have o2 := spII.own_below HO.out hb2
      obtain ⟨vs3, hvs, hpush⟩ := spL_push o2 ow2 (fun k h1 h2 => by have := spII.own_lt HO.out h1; have := hS2 k h2; omega)
      rw [HLJ.out] at hvs hpush
      have HVS := Lib.hid (hvs.alloc (.cells #[.slice U x.length cU] 31))
      have HP := Lib.hid hpush
      have HB := Lib.hid (fun k (hk : (Value.slice A' j c').ownBlock = some k) => hS.out k (by obtain ⟨_, _, _, _, _, _, h5, _⟩ := HO.out; exact h5 k hk))
      clear hvs hpush o2
      go_wp2_with (first | (at_builtin; refine wpList_append_lies _ rfl _ _ 22 rfl 0 31 i0 (.slice none 0 0) 1 24 Try.underlying22 hi hz0 hz1 hz2 rfl (by decide) (.slice A' j c') j vs3 rfl HVS.out ⟨_, 0, none⟩ 1 1 [.slice U x.length cU] rfl rfl (by first | exact cell_one_new _ _ _ | (have hcn := cell_one_new w2 (.slice U x.length cU) 31; rw [World.size_setCell] at hcn; exact hcn)) (by simp [Value.oneCell']) (by decide) (by unfold maxLen; omega) (by omega) (Nat.zero_le _) _ rfl ?_; intro g3 cap3 w4 own3 gr3 at3 lt3))
      have hzp : wr.heap.size ≤ w2.heap.size := hb2.size
      have hzw := bel.size
      have OW3 := Lib.hid (HP.out _ _ _ g3 ((Below.refl _ _).alloc (Nat.le_refl _) _) own3 gr3 rfl (by rcases at3 with h' | h'; exact .inl h'; exact .inr (by simp at h' ⊢; omega)) lt3)
      have HS3 : Hid (∀ k, (S k ∨ S2 k ∨ k = g3) → w3.heap.size ≤ k) := Lib.hid (fun k hk => by
        rcases hk with hk | hk | hk
        · exact hS.out _ hk
        · have := hS2 _ hk; omega
        · rcases at3 with h' | h'
          · rw [hk]; exact HB.out _ h'
          · have hzp' := hzp; simp at h' hzp'; omega)
      have bel3 : Below w3.heap.size w3 w4 := ((bel.trans (hb2.mono hzw)).alloc (by omega) _).grown gr3 (by have hzp' := hzp; simp at hzp' ⊢; omega) HB.out
      clear own3 gr3 at3 lt3 HVS HP
      have HE3 : Hid (spII.own w4 (fun q => S q ∨ S2 q ∨ q = g3) (.slice (some ⟨g3, 0, none⟩) (j + 1) cap3) (Num.meetTo p u N C (j + 1))) := Lib.hid (by rw [ET.out]; exact OW3.out)
      clear hb2 hS2 ow2 OW3
      go_wp2_with (fail)
      exact ⟨⟨j + 1, _, by go_num, by omega, HE3, HS3, bel3⟩, by simp [intOf]; omega⟩
    · obtain rfl : j = N.length := by omega
      have hge : ¬ ((N.length : Int) < (N.length : Int)) := by omega
      have L4 := bstep L3 L3.size bel
      go_wp2_with (fail)
      refine (H3.out _ _ (spII.own_rd HO.out)).mono ?_; rintro e w5 ⟨u5, S5, rfl, ow5, hS5, hb5⟩
      have L5 := bstep L4 L4.size hb5
      go_wp2_with (fail)
      go_ret
      exact Made.of rfl ow5 (fun k hk => by have := hS5 k hk; have := L4.size; omega) L5
end Go.Proofs.Ytggkoihlmijacaa
