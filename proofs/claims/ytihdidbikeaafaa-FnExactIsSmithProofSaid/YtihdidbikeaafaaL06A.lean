/- Tables: what comes in; IsTable of the program and of the model. -/
import Derived.Test.YtihdidbikeaafaaNumI
import Derived.Test.YtihdidbikeaafaaKB
import Derived.Test.YtihdidbikeaafaaShTab
namespace Go.Proofs.Ytihdidbikeaafaa
open Go.RowKit Go.ChangeShapes Go.WideShapes Go.ChangeAt
set_option linter.unusedVariables false
set_option linter.unusedSimpArgs false

set_option maxRecDepth 100000 in
/-- What a table by value says. -/
theorem open_tab {H : Type} {enc : TypeId × Value → H} {W : World} {base : Nat} {v : Value} {d : DataW H} {p : List MemPlace}
    (hv : Value.okWide Try.prog W .any base 24 v) (h : DataW.Trod enc Try.prog W 0 (fun _ => true) true 24 v d p) :
    ∃ (C : Int) (A : Option Addr) (cap : Nat) (xss : List (List Int)), v = .agg #[.int .i64 C, .slice A xss.length cap] ∧ RdII W A xss ∧ (∀ j, j < xss.length → (xss.getD j []).length ≤ maxLen) ∧ xss.length ≤ maxLen := by
  obtain ⟨c1, c2, y1, y2, m, rfl, _, _, hy1, hy2⟩ := Go.Joins.open_agg2 Try.underlying24 (by kernel_rfl) (by kernel_rfl) hv h
  obtain ⟨C, e1, _, _⟩ := DataW.trod_int Try.underlying2 hy1
  simp at e1
  subst e1
  rcases Go.Deep.open_int_rows Try.underlying22 Try.underlying25 Try.underlying2 (by kernel_rfl) (by kernel_rfl) hy2 with ⟨hc, _⟩ | ⟨a, len, cap, A, L, C', Z, hc, _, hl, hm, _, hr⟩
  · simp at hc
    subst hc
    exact ⟨C, none, 0, [], rfl, fun j hj => by simp at hj, fun j hj => by simp at hj, by simp⟩
  · simp at hc
    subst hc
    refine ⟨C, some a, cap, (List.range len).map fun r => (Z r).take (L r), by simp, fun j hj => ?_, fun j hj => ?_, by simp; omega⟩
    · have hj' : j < len := by simpa using hj
      obtain ⟨h1, h2, h3, h4, h5, h6, h7⟩ := hr j (by omega)
      obtain ⟨b, o, rfl⟩ := plain_of (hr 0 (by omega)).1
      have hcell : W.cell? ⟨b, o + j, none⟩ = some (.slice (A j) (L j) (C' j)) := by rw [← Go.WideShapes.add_plain]; exact h1
      have hg : ((List.range len).map fun r => (Z r).take (L r)).getD j [] = (Z j).take (L j) := by simp [hj']
      rw [hg]
      have hlen : ((Z j).take (L j)).length = L j := by simp; omega
      rw [hlen]
      refine ⟨b, o, A j, C' j, rfl, World.block_lt_of_cell? W _ hcell, hcell, fun i hi => ?_⟩
      rw [hlen] at hi
      cases hA : A j with
      | none => have := h6 hA; omega
      | some a' =>
        obtain ⟨_, hcc⟩ := h7 a' hA
        have hci := hcc i (by omega)
        obtain ⟨b', o', rfl⟩ := plain_of (hcc 0 (by omega))
        have hcell' : W.cell? ⟨b', o' + i, none⟩ = some (.int .i64 ((Z j).getD i 0)) := by rw [← Go.WideShapes.add_plain]; exact hci
        refine ⟨b', o', rfl, World.block_lt_of_cell? W _ hcell', ?_⟩
        rw [hcell']
        simp [List.getElem?_take, hi]
    · have hj' : j < len := by simpa using hj
      obtain ⟨h1, h2, h3, h4, h5, h6, h7⟩ := hr j (by omega)
      have hg : ((List.range len).map fun r => (Z r).take (L r)).getD j [] = (Z j).take (L j) := by simp [hj']
      rw [hg]
      simp; omega
theorem rdTab_of {w : World} {C : Int} {A : Option Addr} {c : Nat} {xss : List (List Int)} (h : RdII w A xss ∧ (∀ j, j < xss.length → (xss.getD j []).length ≤ maxLen) ∧ xss.length ≤ maxLen) : spTab.rd w (.agg #[.int .i64 C, .slice A xss.length c]) ⟨C, xss⟩ := ⟨_, rfl, rd_of h⟩

def Tab.ok (x : Tab) : Bool := Num.tabB x.C x.R

set_option maxHeartbeats 400000 in
theorem areEnt_any (A : Option Addr) (c : Nat) (xs : List Int) (w : World) (h : RdI w A xs) (hl : xs.length ≤ maxLen) :
    Calls Try.prog 91 #[.slice A xs.length c] w fun e w' => e = .returned (.bool (Num.entB xs)) ∧ w = w' := by
  unfold maxLen at hl
  go_enter Try.func91, Try.ntmps91
  go_wp2_with (fail)
  go_loop [7] (fun s => ∃ k : Nat, k ≤ xs.length ∧ s = .int .i64 k ∧ Hid (∀ j, j < k → -64 ≤ xs.getD j 0 ∧ xs.getD j 0 ≤ 64)) (fun s => xs.length - (intOf s).toNat)
  case atStart => exact ⟨0, by omega, rfl, Lib.hid (fun j hj => by omega)⟩
  case round =>
    obtain ⟨k, hk, rfl, hp⟩ := hrel
    by_cases hlt : k < xs.length
    · obtain ⟨g, o, rfl, hg, hc⟩ := h k hlt
      have i0 : (0 : Int) ≤ (k : Int) := by omega
      have i1 : (k : Int) < (xs.length : Int) := by omega
      by_cases hx : -64 ≤ xs.getD k 0 ∧ xs.getD k 0 ≤ 64
      · have HP : Hid (∀ j, j < k + 1 → -64 ≤ xs.getD j 0 ∧ xs.getD j 0 ≤ 64) := Lib.hid fun j hj => by
          by_cases e : j = k
          · rw [e]; exact hx
          · exact hp.out j (by omega)
        obtain ⟨hx1, hx2⟩ := hx
        generalize xs.getD k 0 = x at *
        go_wp2_with (fail)
        exact ⟨⟨k + 1, by omega, by go_num, HP⟩, by simp [intOf]; omega⟩
      · have HB : Hid (Num.entB xs = false) := Lib.hid (Num.entB_bad hlt hx)
        generalize xs.getD k 0 = x at *
        by_cases hx1 : -64 ≤ x
        · have hx2 : ¬ x ≤ 64 := fun h2 => hx ⟨hx1, h2⟩
          clear hx
          go_wp2_with (fail)
          go_ret
          exact ⟨ret_b HB.out.symm, rfl⟩
        · clear hx
          go_wp2_with (fail)
          go_ret
          exact ⟨ret_b HB.out.symm, rfl⟩
    · have hge : ¬ ((k : Int) < (xs.length : Int)) := by omega
      obtain rfl : k = xs.length := by omega
      have HB : Hid (Num.entB xs = true) := Lib.hid (Num.entB_ok hp.out)
      go_wp2_with (fail)
      go_ret
      exact ⟨ret_b HB.out.symm, rfl⟩

/-- The rows of a table are rows, so far. -/
def RowsT (C : Int) (xss : List (List Int)) (k : Nat) : Prop := ∀ j, j < k → Num.rowT C (xss.getD j []) = true
theorem RowsT.step {C : Int} {xss : List (List Int)} {k : Nat} (h : RowsT C xss k) (h' : Num.rowT C (xss.getD k []) = true) : RowsT C xss (k + 1) := fun j hj => by
  by_cases e : j = k
  · rw [e]; exact h'
  · exact h j (by omega)
set_option maxHeartbeats 1000000 in
theorem isTab_any (v : Value) (x : Tab) (w : World) (h : spTab.rd w v x) :
    Calls Try.prog 56 #[v] w (RetB x.ok w) := by
  obtain ⟨A, n, c, rfl, r⟩ := spTab_form h
  obtain ⟨rfl, hx, hA0, hm⟩ := rdII_of r
  obtain ⟨C, xss⟩ := x
  replace hA0 : RdII w A xss := hA0
  replace hm : ∀ j, j < xss.length → (xss.getD j []).length ≤ maxLen := hm
  have hx' : xss.length ≤ maxLen := hx
  unfold maxLen at hx'
  clear h r hx
  show Calls Try.prog 56 #[.agg #[.int .i64 C, .slice A xss.length c]] w fun e w' => e = .returned (.bool (Num.tabB C xss)) ∧ Below w.heap.size w w'
  have b0 : Below w.heap.size w (w.alloc (.cells #[.int .i64 C, .slice A xss.length c] 28)) := by go_grown
  rcases Num.tabB_cases C xss with h1 | ⟨h1, h2⟩ | ⟨h1, h2, h3⟩ | ⟨h1, h2, h3⟩
  · have HB : Hid (Num.tabB C xss = false) := Lib.hid (Num.tabB_no1 (by omega))
    go_enter Try.func56, Try.ntmps56
    go_wp2_with (fail)
    go_ret
    exact ⟨ret_b HB.out.symm, by go_grown⟩
  · have HB : Hid (Num.tabB C xss = false) := Lib.hid (Num.tabB_no1 (by omega))
    go_enter Try.func56, Try.ntmps56
    go_wp2_with (fail)
    go_ret
    exact ⟨ret_b HB.out.symm, by go_grown⟩
  · have HB : Hid (Num.tabB C xss = false) := Lib.hid (Num.tabB_no2 h3)
    go_enter Try.func56, Try.ntmps56
    go_wp2_with (fail)
    go_ret
    exact ⟨ret_b HB.out.symm, by go_grown⟩
  · have HR : Hid (RowsT C xss xss.length → Num.tabB C xss = true) := Lib.hid fun hr => Num.tabB_ok h1 h2 h3 hr
    have hA := hA0.below' b0
    have bel := b0
    clear hA0 b0
    go_enter Try.func56, Try.ntmps56
    go_wp2_with (fail)
    go_loop [22] (fun s => ∃ k : Nat, k ≤ xss.length ∧ s = .int .i64 k ∧ RowsT C xss k) (fun s => xss.length - (intOf s).toNat)
    case atStart => exact ⟨0, by omega, rfl, fun j hj => by omega⟩
    case round =>
      obtain ⟨k, hk, rfl, hp⟩ := hrel
      by_cases hlt : k < xss.length
      · obtain ⟨g, o, B, cc, rfl, hc, hr⟩ := hA.row hlt
        have i0 : (0 : Int) ≤ (k : Int) := by omega
        have i1 : (k : Int) < (xss.length : Int) := by omega
        have hlen := hm k hlt
        have HP := Lib.hid hp
        clear hp
        have HV : Hid (∀ wx, RdI wx B (xss.getD k []) → Calls Try.prog 91 #[.slice B (xss.getD k []).length cc] wx fun e w' => e = .returned (.bool (Num.entB (xss.getD k []))) ∧ wx = w') := Lib.hid fun wx h => areEnt_any B cc _ wx h hlen
        have HRD := Lib.hid hr
        by_cases hl : (((xss.getD k []).length : Nat) : Int) = C
        · have T1 : (((xss.getD k []).length : Int) != C) = false := by rw [hl]; simp
          cases hv : Num.entB (xss.getD k []) with
          | false =>
            have HB : Hid (Num.tabB C xss = false) := Lib.hid (Num.tabB_bad hlt (Num.rowT_ent hv))
            rw [hv] at HV
            clear hv hm hA hr hl
            generalize xss.getD k [] = xs at *
            go_wp2_with (fail)
            refine (HV.out _ HRD.out).mono ?_; rintro e w' ⟨rfl, rfl⟩
            go_wp2_with (fail)
            go_ret
            exact ⟨ret_b HB.out.symm, bel⟩
          | true =>
            have HS := Lib.hid (HP.out.step (Num.rowT_ok hl hv))
            rw [hv] at HV
            clear hv hm hA hr hl
            generalize xss.getD k [] = xs at *
            go_wp2_with (fail)
            refine (HV.out _ HRD.out).mono ?_; rintro e w' ⟨rfl, rfl⟩
            go_wp2_with (fail)
            exact ⟨⟨k + 1, by omega, by go_num, HS.out⟩, by simp [intOf]; omega⟩
        · have T1 : (((xss.getD k []).length : Int) != C) = true := by simpa using hl
          have HB : Hid (Num.tabB C xss = false) := Lib.hid (Num.tabB_bad hlt (Num.rowT_len hl))
          clear hm hA hr hl HV
          generalize xss.getD k [] = xs at *
          go_wp2_with (fail)
          go_ret
          exact ⟨ret_b HB.out.symm, bel⟩
      · have hge : ¬ ((k : Int) < (xss.length : Int)) := by omega
        obtain rfl : k = xss.length := by omega
        have HB : Hid (Num.tabB C xss = true) := Lib.hid (HR.out hp)
        go_wp2_with (fail)
        go_ret
        exact ⟨ret_b HB.out.symm, bel⟩
theorem isTab_yes (v : Value) (x : Tab) (w : World) (h : spTab.rd w v x) (hk : x.ok = true) : Calls Try.prog 56 #[v] w (RetB true w) := by
  have := isTab_any v x w h; rwa [hk] at this
theorem isTab_no (v : Value) (x : Tab) (w : World) (h : spTab.rd w v x) (hk : x.ok = false) : Calls Try.prog 56 #[v] w (RetB false w) := by
  have := isTab_any v x w h; rwa [hk] at this

/-! ### The model -/
set_option maxHeartbeats 400000 in
theorem sSmall_any (A : Option Addr) (c : Nat) (xs : List Int) (w : World) (h : RdI w A xs) (hl : xs.length ≤ maxLen) :
    Calls Try.prog 88 #[.slice A xs.length c] w fun e w' => e = .returned (.bool (Num.entB xs)) ∧ w = w' := by
  unfold maxLen at hl
  go_enter Try.func88, Try.ntmps88
  go_wp2_with (fail)
  go_loop [3] (fun s => ∃ k : Nat, k ≤ xs.length ∧ s = .int .i64 k ∧ Hid (∀ j, j < k → -64 ≤ xs.getD j 0 ∧ xs.getD j 0 ≤ 64)) (fun s => xs.length - (intOf s).toNat)
  case atStart => exact ⟨0, by omega, rfl, Lib.hid (fun j hj => by omega)⟩
  case round =>
    obtain ⟨k, hk, rfl, hp⟩ := hrel
    by_cases hlt : k < xs.length
    · obtain ⟨g, o, rfl, hg, hc⟩ := h k hlt
      have i0 : (0 : Int) ≤ (k : Int) := by omega
      have i1 : (k : Int) < (xs.length : Int) := by omega
      by_cases hx : -64 ≤ xs.getD k 0 ∧ xs.getD k 0 ≤ 64
      · have HP : Hid (∀ j, j < k + 1 → -64 ≤ xs.getD j 0 ∧ xs.getD j 0 ≤ 64) := Lib.hid fun j hj => by
          by_cases e : j = k
          · rw [e]; exact hx
          · exact hp.out j (by omega)
        obtain ⟨hx1, hx2⟩ := hx
        generalize xs.getD k 0 = x at *
        go_wp2_with (go_at_call 52; refine (sIn_yes _ _ _ _ hx1 (by omega)).mono ?_; rintro e w' ⟨rfl, rfl⟩)
        exact ⟨⟨k + 1, by omega, by go_num, HP⟩, by simp [intOf]; omega⟩
      · have HB : Hid (Num.entB xs = false) := Lib.hid (Num.entB_bad hlt hx)
        generalize xs.getD k 0 = x at *
        have hx' : x < -64 ∨ 64 < x := by omega
        have HX := Lib.hid hx'
        clear hx hx'
        go_wp2_with (go_at_call 52; refine (sIn_no _ _ _ _ HX.out).mono ?_; rintro e w' ⟨rfl, rfl⟩)
        go_ret
        exact ⟨ret_b HB.out.symm, rfl⟩
    · have hge : ¬ ((k : Int) < (xs.length : Int)) := by omega
      obtain rfl : k = xs.length := by omega
      have HB : Hid (Num.entB xs = true) := Lib.hid (Num.entB_ok hp.out)
      go_wp2_with (fail)
      go_ret
      exact ⟨ret_b HB.out.symm, rfl⟩
set_option maxHeartbeats 1000000 in
theorem sIsTab_any (v : Value) (x : Tab) (w : World) (h : spTab.rd w v x) :
    Calls Try.prog 51 #[v] w (RetB x.ok w) := by
  obtain ⟨A, n, c, rfl, r⟩ := spTab_form h
  obtain ⟨rfl, hx, hA0, hm⟩ := rdII_of r
  obtain ⟨C, xss⟩ := x
  replace hA0 : RdII w A xss := hA0
  replace hm : ∀ j, j < xss.length → (xss.getD j []).length ≤ maxLen := hm
  have hx' : xss.length ≤ maxLen := hx
  unfold maxLen at hx'
  clear h r hx
  show Calls Try.prog 51 #[.agg #[.int .i64 C, .slice A xss.length c]] w fun e w' => e = .returned (.bool (Num.tabB C xss)) ∧ Below w.heap.size w w'
  have b0 : Below w.heap.size w (w.alloc (.cells #[.int .i64 C, .slice A xss.length c] 28)) := by go_grown
  rcases Num.tabB_cases C xss with h1 | ⟨h1, h2⟩ | ⟨h1, h2, h3⟩ | ⟨h1, h2, h3⟩
  · have HB : Hid (Num.tabB C xss = false) := Lib.hid (Num.tabB_no1 (by omega))
    have H2 : Hid (C < 1 ∨ 4 < C) := Lib.hid (by omega)
    go_enter Try.func51, Try.ntmps51
    go_wp2_with (go_at_call 52; refine (sIn_no _ _ _ _ H2.out).mono ?_; rintro e w' ⟨rfl, rfl⟩)
    go_ret
    exact ⟨ret_b HB.out.symm, by go_grown⟩
  · have HB : Hid (Num.tabB C xss = false) := Lib.hid (Num.tabB_no1 (by omega))
    have H2 : Hid (C < 1 ∨ 4 < C) := Lib.hid (by omega)
    go_enter Try.func51, Try.ntmps51
    go_wp2_with (go_at_call 52; refine (sIn_no _ _ _ _ H2.out).mono ?_; rintro e w' ⟨rfl, rfl⟩)
    go_ret
    exact ⟨ret_b HB.out.symm, by go_grown⟩
  · have HB : Hid (Num.tabB C xss = false) := Lib.hid (Num.tabB_no2 h3)
    go_enter Try.func51, Try.ntmps51
    go_wp2_with (go_at_call 52; refine (sIn_yes _ _ _ _ h1 h2).mono ?_; rintro e w' ⟨rfl, rfl⟩)
    go_ret
    exact ⟨ret_b HB.out.symm, by go_grown⟩
  · have HR : Hid (RowsT C xss xss.length → Num.tabB C xss = true) := Lib.hid fun hr => Num.tabB_ok h1 h2 h3 hr
    have hA := hA0.below' b0
    have bel := b0
    clear hA0 b0
    go_enter Try.func51, Try.ntmps51
    go_wp2_with (go_at_call 52; refine (sIn_yes _ _ _ _ h1 h2).mono ?_; rintro e w' ⟨rfl, rfl⟩)
    go_loopw [3] (fun s wr => ∃ k n : Nat, k ≤ xss.length ∧ s = .int .i64 k ∧ RowsT C xss k ∧ wr = (w.alloc (.cells #[.int .i64 C, .slice A xss.length c] 28)).drewN n) (fun s _ => xss.length - (intOf s).toNat)
    case atStart => exact ⟨0, 0, by omega, rfl, (fun j hj => by omega), rfl⟩
    case round =>
      obtain ⟨k, n, hk, rfl, hp, rfl⟩ := hrel
      by_cases hlt : k < xss.length
      · obtain ⟨g, o, B, cc, rfl, hc, hr⟩ := hA.row hlt
        have i0 : (0 : Int) ≤ (k : Int) := by omega
        have i1 : (k : Int) < (xss.length : Int) := by omega
        have hlen := hm k hlt
        have HP := Lib.hid hp
        clear hp
        have HRD := Lib.hid hr
        have HV : Hid (∀ wx, RdI wx B (xss.getD k []) → Calls Try.prog 88 #[.slice B (xss.getD k []).length cc] wx fun e w' => e = .returned (.bool (Num.entB (xss.getD k []))) ∧ wx = w') := Lib.hid fun wx h => sSmall_any B cc _ wx h hlen
        by_cases hl : (((xss.getD k []).length : Nat) : Int) = C
        · have T1 : (((xss.getD k []).length : Int) != C) = false := by rw [hl]; simp
          cases hv : Num.entB (xss.getD k []) with
          | false =>
            have HB : Hid (Num.tabB C xss = false) := Lib.hid (Num.tabB_bad hlt (Num.rowT_ent hv))
            rw [hv] at HV
            clear hv hm hA hr hl
            generalize xss.getD k [] = xs at *
            go_wp2_with (fail)
            go_quiet ((go_at_call 88; exact quiet_more fun W hW => HV.out _ (hW ▸ HRD.out)))
            go_wp2_with (fail)
            go_ret
            exact ⟨ret_b HB.out.symm, by rw [World.drewN_drewN]; exact below_drewN bel _⟩
          | true =>
            have HS := Lib.hid (HP.out.step (Num.rowT_ok hl hv))
            rw [hv] at HV
            clear hv hm hA hr hl
            generalize xss.getD k [] = xs at *
            go_wp2_with (fail)
            go_quiet ((go_at_call 88; exact quiet_more fun W hW => HV.out _ (hW ▸ HRD.out)))
            go_wp2_with (fail)
            exact ⟨⟨k + 1, _, by omega, by go_num, HS.out, rfl⟩, by simp [intOf]; omega⟩
        · have T1 : (((xss.getD k []).length : Int) != C) = true := by simpa using hl
          have HB : Hid (Num.tabB C xss = false) := Lib.hid (Num.tabB_bad hlt (Num.rowT_len hl))
          clear hm hA hr hl HV
          generalize xss.getD k [] = xs at *
          go_wp2_with (fail)
          go_quiet (fail)
          go_wp2_with (fail)
          go_ret
          exact ⟨ret_b HB.out.symm, by rw [World.drewN_drewN]; exact below_drewN bel _⟩
      · have hge : ¬ ((k : Int) < (xss.length : Int)) := by omega
        obtain rfl : k = xss.length := by omega
        have HB : Hid (Num.tabB C xss = true) := Lib.hid (HR.out hp)
        go_wp2_with (fail)
        go_ret
        exact ⟨ret_b HB.out.symm, below_drewN bel _⟩
theorem sIsTab_yes (v : Value) (x : Tab) (w : World) (h : spTab.rd w v x) (hk : x.ok = true) : Calls Try.prog 51 #[v] w (RetB true w) := by
  have := sIsTab_any v x w h; rwa [hk] at this
theorem sIsTab_no (v : Value) (x : Tab) (w : World) (h : spTab.rd w v x) (hk : x.ok = false) : Calls Try.prog 51 #[v] w (RetB false w) := by
  have := sIsTab_any v x w h; rwa [hk] at this
/-- The result of IsTable. -/
def rIsTable (x : Tab) : Bool := x.ok
theorem iIsTable_ok (v0 : Value) (x0 : Tab) (w : World) (h0 : spTab.rd w v0 x0) (s0 : spTab.sz x0 ≤ 1048576) : Calls Try.prog 56 #[v0] w (RetB (rIsTable x0) w) := isTab_any v0 x0 w h0
theorem sIsTable_ok (v0 : Value) (x0 : Tab) (w : World) (h0 : spTab.rd w v0 x0) (s0 : spTab.sz x0 ≤ 1048576) : Calls Try.prog 51 #[v0] w (RetB (rIsTable x0) w) := sIsTab_any v0 x0 w h0
end Go.Proofs.Ytihdidbikeaafaa
