/- Parts of presentations: the data, partOf. -/
import Derived.Test.YtahmhdpgdhfjnaaZb
import Derived.Test.YtahmhdpgdhfjnaaL11O
import Derived.Handy
namespace Go.Proofs.Ytahmhdpgdhfjnaa
open Go.RowKit
set_option linter.unusedVariables false
set_option linter.unusedSimpArgs false

def Num.ptV (a b : Nat) (x : List Int) : List Int := (x.drop a).take (b - a)
def Num.ptW (W : List (List Int)) (a b : Nat) : Nat → List (List Int)
  | 0 => []
  | k + 1 => Num.ptW W a b k ++ [Num.ptV a b (W.getD (a + k) [])]
def Num.ptR (r : List (List Int)) (a b : Nat) : Nat → List (List Int)
  | 0 => []
  | k + 1 => Num.ptR r a b k ++ [Num.ptV a b (r.getD k [])]
def Num.ptJ (J : List (List (List Int))) (a b : Nat) : Nat → List (List (List Int))
  | 0 => []
  | k + 1 => Num.ptJ J a b k ++ [Num.ptR (J.getD (a + k) []) a b (b - (a + k) - 1)]
def partP (O : List Int) (W : List (List Int)) (J : List (List (List Int))) (a b : Nat) : Pres := ⟨Num.ptV a b O, Num.ptW W a b (b - a), Num.ptJ J a b (b - a)⟩
theorem Num.ptV_len {a b : Nat} {x : List Int} (h : b ≤ x.length) : (Num.ptV a b x).length = b - a := by unfold Num.ptV; rw [List.length_take, List.length_drop]; omega
theorem Num.ptW_len (W : List (List Int)) (a b : Nat) : ∀ k, (Num.ptW W a b k).length = k
  | 0 => rfl
  | k + 1 => by simp [Num.ptW, Num.ptW_len W a b k]
theorem Num.ptR_len (r : List (List Int)) (a b : Nat) : ∀ k, (Num.ptR r a b k).length = k
  | 0 => rfl
  | k + 1 => by simp [Num.ptR, Num.ptR_len r a b k]
theorem Num.ptJ_len (J : List (List (List Int))) (a b : Nat) : ∀ k, (Num.ptJ J a b k).length = k
  | 0 => rfl
  | k + 1 => by simp [Num.ptJ, Num.ptJ_len J a b k]
theorem Num.ptW_step (W : List (List Int)) {a b i : Nat} (h : a ≤ i) : Num.ptW W a b (i + 1 - a) = Num.ptW W a b (i - a) ++ [Num.ptV a b (W.getD i [])] := by
  rw [show i + 1 - a = (i - a) + 1 by omega, Num.ptW, show a + (i - a) = i by omega]
theorem Num.ptJ_step (J : List (List (List Int))) {a b i : Nat} (h : a ≤ i) : Num.ptJ J a b (i + 1 - a) = Num.ptJ J a b (i - a) ++ [Num.ptR (J.getD i []) a b (b - i - 1)] := by
  rw [show i + 1 - a = (i - a) + 1 by omega, Num.ptJ, show a + (i - a) = i by omega]
theorem Num.ptV_le (a b : Nat) (x : List Int) (h : x.length ≤ 6) : (Num.ptV a b x).length ≤ 6 := by unfold Num.ptV; rw [List.length_take, List.length_drop]; omega
/-- A part of a slice that is read. -/
theorem rdI_part {w : World} {A : Option Addr} {c a b : Nat} {x : List Int} (h : RdI w A x) (hc : x.length ≤ c) : RdI w (if c = a then A else A.map fun p => p.add a) (Num.ptV a b x) := by
  unfold Num.ptV
  refine rdI_takeZ ?_ _
  intro j hj
  rw [List.length_drop] at hj
  obtain ⟨g', o', e1, e2, e3⟩ := h (a + j) (by omega)
  subst e1
  have e : (x.drop a).getD j 0 = x.getD (a + j) 0 := by simp [List.getD_eq_getElem?_getD]
  rw [e, if_neg (by omega)]
  exact ⟨g', o' + a, by simp [Addr.add_lit], e2, by rw [Nat.add_assoc]; exact e3⟩
/-- What partOf and the like need. -/
structure Num.Shp9 (O : List Int) (W : List (List Int)) (J : List (List (List Int))) : Prop where
  n6 : O.length ≤ 6
  lw : W.length = O.length
  lj : J.length = O.length
  lr : ∀ i, i < O.length → (J.getD i []).length = O.length - 1 - i
  wl : ∀ i, i < O.length → (W.getD i []).length = O.length
  cl : ∀ i k, i < O.length → k < O.length - 1 - i → ((J.getD i []).getD k []).length = O.length
theorem Num.Shp9.of {O : List Int} {W : List (List Int)} {J : List (List (List Int))} (h : Num.preB O W J = true) : Num.Shp9 O W J := by
  obtain ⟨h1, h2, h3, h4, h5⟩ := Num.preB_out h
  obtain ⟨h6, -, -⟩ := Num.ordC_zero h1
  refine ⟨h6, h2, h3, fun i hi => (Num.conB_out (h5 i hi)).1, fun i hi => (Num.fitB_out (h4 i hi)).1, fun i k hi hk => ?_⟩
  obtain ⟨c1, c2⟩ := Num.conB_out (h5 i hi)
  exact (Num.fitB_out (c2 k (by rw [c1]; exact hk))).1
theorem partP_cnt {O : List Int} {W : List (List Int)} {J : List (List (List Int))} (V : Num.Shp9 O W J) {a b : Nat} (hb : b ≤ O.length) : spPres.cnt (partP O W J a b) ≤ 1000000000 := by
  have h6 := V.n6
  have m1 : ∀ (W : List (List Int)), (∀ i, i < b → (W.getD i []).length ≤ 6) → ∀ k, a + k ≤ b → ∀ r ∈ Num.ptW W a b k, r.length ≤ 6 := by
    intro W hW k
    induction k with
    | zero => intro _ r hr; simp [Num.ptW] at hr
    | succ k ih =>
      intro hk r hr
      rw [Num.ptW, List.mem_append, List.mem_singleton] at hr
      rcases hr with hr | hr
      · exact ih (by omega) r hr
      · rw [hr]; exact Num.ptV_le _ _ _ (hW _ (by omega))
  have m2 : ∀ (r : List (List Int)) (m : Nat), (∀ k, k < m → (r.getD k []).length ≤ 6) → ∀ k, k ≤ m → ∀ x ∈ Num.ptR r a b k, x.length ≤ 6 := by
    intro r m hr k
    induction k with
    | zero => intro _ x hx; simp [Num.ptR] at hx
    | succ k ih =>
      intro hk x hx
      rw [Num.ptR, List.mem_append, List.mem_singleton] at hx
      rcases hx with hx | hx
      · exact ih (by omega) x hx
      · rw [hx]; exact Num.ptV_le _ _ _ (hr _ (by omega))
  have m3 : ∀ k, a + k ≤ b → ∀ r ∈ Num.ptJ J a b k, spII.cnt r ≤ 100 := by
    intro k
    induction k with
    | zero => intro _ r hr; simp [Num.ptJ] at hr
    | succ k ih =>
      intro hk r hr
      rw [Num.ptJ, List.mem_append, List.mem_singleton] at hr
      rcases hr with hr | hr
      · exact ih (by omega) r hr
      · rw [hr]
        have h3 := sumOf_bd spI.cnt 6 (Num.ptR (J.getD (a + k) []) a b (b - (a + k) - 1)) (m2 _ (b - (a + k) - 1) (fun j hj => by rw [V.cl (a + k) j (by omega) (by omega)]; exact h6) _ (Nat.le_refl _))
        rw [Num.ptR_len] at h3
        show sumOf spI.cnt _ ≤ _
        omega
  show (Num.ptV a b O).length + sumOf spI.cnt (Num.ptW W a b (b - a)) + sumOf spII.cnt (Num.ptJ J a b (b - a)) ≤ _
  have h1 := Num.ptV_le a b O h6
  by_cases hab : a ≤ b
  · have h2 := sumOf_bd spI.cnt 6 (Num.ptW W a b (b - a)) (m1 W (fun i hi => by rw [V.wl i (by omega)]; exact h6) _ (by omega))
    have h3 := sumOf_bd spII.cnt 100 (Num.ptJ J a b (b - a)) (m3 _ (by omega))
    rw [Num.ptW_len] at h2
    rw [Num.ptJ_len] at h3
    omega
  · rw [show b - a = 0 by omega]
    show _ + sumOf spI.cnt [] + sumOf spII.cnt [] ≤ _
    simp [sumOf]
    omega
set_option maxRecDepth 100000 in
set_option maxHeartbeats 4000000 in
theorem partOf_any (A0 A1 A2 : Option Addr) (c0 c1 c2 a b : Nat) (O : List Int) (W : List (List Int)) (J : List (List (List Int))) (w : World) (hO : RdI w A0 O) (hW : RdWK w A1 W) (hJ : RdXM w A2 J) (V : Num.Shp9 O W J) (hab : a ≤ b) (hb : b ≤ O.length) (hc0 : O.length ≤ c0) :
    Calls Try.prog 59 #[.agg #[.slice A0 O.length c0, .slice A1 W.length c1, .slice A2 J.length c2], .int .i64 (a : Int), .int .i64 (b : Int)] w (Made spPres (partP O W J a b) w) := by
  have h6 := V.n6
  have HV := Lib.hid V
  have b0 : Below w.heap.size w ((w.alloc (.cells #[.slice A0 O.length c0, .slice A1 W.length c1, .slice A2 J.length c2] 28)).alloc (.cells #[.slice none 0 0, .slice none 0 0, .slice none 0 0] 28)) := by go_grown
  have BX0 := (Blk.new w [.slice A0 O.length c0, .slice A1 W.length c1, .slice A2 J.length c2] 28).alloc (.cells #[.slice none 0 0, .slice none 0 0, .slice none 0 0] 28)
  have BR0 : Blk ((w.alloc (.cells #[.slice A0 O.length c0, .slice A1 W.length c1, .slice A2 J.length c2] 28)).alloc (.cells #[.slice none 0 0, .slice none 0 0, .slice none 0 0] 28)) (w.heap.size + 1) [.slice none 0 0, .slice none 0 0, .slice none 0 0] 28 := by
    have := Blk.new (w.alloc (.cells #[.slice A0 O.length c0, .slice A1 W.length c1, .slice A2 J.length c2] 28)) [.slice none 0 0, .slice none 0 0, .slice none 0 0] 28
    simpa using this
  have a0 : (0 : Int) ≤ (a : Int) := by omega
  have a1 : (a : Int) ≤ (b : Int) := by omega
  have a2 : (b : Int) ≤ (c0 : Int) := by omega
  have a3 : (a : Int) ≤ (c0 : Int) := by omega
  have a4 : (b : Int) ≤ (O.length : Int) := by omega
  have ab1 : ¬ ((b : Int) < (a : Int)) := by omega
  have ab2 : ((b : Int) - (a : Int)).toNat = b - a := by omega
  have hz2 : ((w.alloc (.cells #[.slice A0 O.length c0, .slice A1 W.length c1, .slice A2 J.length c2] 28)).alloc (.cells #[.slice none 0 0, .slice none 0 0, .slice none 0 0] 28)).heap.size = w.heap.size + 2 := by simp
  generalize hW0 : ((w.alloc (.cells #[.slice A0 O.length c0, .slice A1 W.length c1, .slice A2 J.length c2] 28)).alloc (.cells #[.slice none 0 0, .slice none 0 0, .slice none 0 0] 28)) = W0 at *
  obtain ⟨bl, x0, x1, x2⟩ := BX0.c3
  have hRO := rdI_part (a := a) (b := b) (hO.below' b0) hc0
  obtain ⟨AD, hAD⟩ : ∃ AD, (if c0 = a then A0 else A0.map fun p => p.add a) = AD := ⟨_, rfl⟩
  rw [hAD] at hRO
  have HOW := Lib.hid (cloneI_any AD (c0 - a) (Num.ptV a b O) W0 hRO (by have := Num.ptV_le a b O h6; omega))
  rw [Num.ptV_len hb] at HOW
  have HWx := Lib.hid hW
  have HJx := Lib.hid hJ
  have hz0 := b0.size
  have hBR0 := BR0.lt
  clear hO hW hJ hRO V
  go_enter Try.func59, Try.ntmps59
  go_wp2_with (fail)
  clear hW0
  refine HOW.out.mono ?_; rintro e w1 ⟨u0, rfl, ow0, hb1⟩
  obtain ⟨A9, n9, c9, rfl, e9⟩ := ow0.formN
  generalize hOV : Num.ptV a b O = OV at *
  have L1 := bstep b0 b0.size hb1
  have PB0 : PBox W0.heap.size (w1.alloc (.cells #[.slice A9 n9 c9, .slice none 0 0, .slice none 0 0] 28)) w1.heap.size OV [] [] (.slice A9 n9 c9) (.slice none 0 0) (.slice none 0 0) (fun k => (Value.slice A9 n9 c9).ownBlock = some k) (fun _ => False) (fun _ => False) :=
    ⟨Blk.new w1 _ _, spI.own_alloc (spI_of ow0) _, spL_nil _ _ _ _, spL_nil _ _ _ _, fun k _ h => h, fun k _ h => h, fun k h => h.elim, fun k hk => by have := World.ownsRow.lt ow0 k hk; exact ⟨this.1, by omega⟩, fun k h => h.elim, fun k h => h.elim, hb1.size⟩
  have BR := (BR0.below hb1).alloc (.cells #[.slice A9 n9 c9, .slice none 0 0, .slice none 0 0] 28)
  have BX := (BX0.below hb1).alloc (.cells #[.slice A9 n9 c9, .slice none 0 0, .slice none 0 0] 28)
  have LA : Below w.heap.size w (w1.alloc (.cells #[.slice A9 n9 c9, .slice none 0 0, .slice none 0 0] 28)) := L1.alloc L1.size _
  have hb4 : w.heap.size + 2 ≤ w1.heap.size := by have := hb1.size; omega
  have HPB0 := Lib.hid PB0
  have HBR0 := Lib.hid BR
  have HBX0 := Lib.hid BX
  have HOV := Lib.hid hOV
  have HE9 := Lib.hid e9
  clear PB0 BR BX L1 hb1 ow0 HOW BR0 BX0 b0 bl x0 x1 x2 hBR0 hOV e9
  generalize hB4 : w1.heap.size = b4 at *
  generalize hZ0 : W0.heap.size = z0 at *
  go_wp2_with (fail)
  generalize hWA : w1.alloc (.cells #[.slice A9 n9 c9, .slice none 0 0, .slice none 0 0] 28) = wa at *
  clear hWA hB4 hZ0
  go_loopw [8] (fun s8 wr => ∃ (i : Nat) (v1 v2 : Value) (S1 S2 : Nat → Prop), s8 = .int .i64 i ∧ a ≤ i ∧ i ≤ b ∧ Hid (PBox z0 wr b4 OV (Num.ptW W a b (i - a)) (Num.ptJ J a b (i - a)) (.slice A9 n9 c9) v1 v2 (fun k => (Value.slice A9 n9 c9).ownBlock = some k) S1 S2) ∧ Hid (Blk wr (w.heap.size + 1) [.slice none 0 0, .slice none 0 0, .slice none 0 0] 28) ∧ Hid (Blk wr w.heap.size [.slice A0 O.length c0, .slice A1 W.length c1, .slice A2 J.length c2] 28) ∧ Below w.heap.size w wr) (fun s8 _ => b - (intOf s8).toNat)
  case atStart => exact ⟨a, _, _, _, _, rfl, Nat.le_refl _, hab, by rw [Nat.sub_self]; exact HPB0, HBR0, HBX0, LA⟩
  case round =>
    obtain ⟨i, v1, v2, S1, S2, rfl, hai, hib, PB, BR, BX, bel⟩ := hrel
    clear HPB0 HBR0 HBX0 LA
    have Z := bel.size
    by_cases hlt : i < b
    · have i0 : (0 : Int) ≤ (i : Int) := by omega
      have i1 : (i : Int) < (b : Int) := by omega
      have hw1 : IntKind.i64.wrap ((i : Int) + 1) = (i : Int) + 1 := IntWalk.i64_in _ (by omega)
      obtain ⟨-, ⟨A1', c1', e1⟩, A2', c2', e2⟩ := PB.out.forms
      rw [Num.ptW_len] at e1
      rw [Num.ptJ_len] at e2
      subst e1 e2
      have hlJ := HV.out.lj
      have hlW := HV.out.lw
      obtain ⟨gj, oj, Bj, cj, hA2, hgj, hcj, -, hrj, hkj⟩ := (HJx.out.below' bel) i (by rw [hlJ]; omega)
      obtain ⟨gw, ow, Bw, cw, hA1, hgw, hcw, -, hrw, hkw⟩ := (HWx.out.below' bel) i (by rw [hlW]; omega)
      have j1 : (i : Int) < (J.length : Int) := by omega
      have j2 : (i : Int) < (W.length : Int) := by omega
      have hlr := HV.out.lr i (by omega)
      have hlw := HV.out.wl i (by omega)
      have hlc := fun k hk => HV.out.cl i k (by omega) hk
      clear hlJ hlW
      have HSW := Lib.hid (Num.ptW_step W (b := b) hai)
      have HSJ := Lib.hid (Num.ptJ_step J (b := b) hai)
      have hlW' : (Num.ptW W a b (i - a)).length ≤ 1000000 := by rw [Num.ptW_len]; omega
      have hlJ' : (Num.ptJ J a b (i - a)).length ≤ 1000000 := by rw [Num.ptJ_len]; omega
      have HLW := Lib.hid (Num.ptW_len W a b (i - a))
      have HLJ := Lib.hid (Num.ptJ_len J a b (i - a))
      generalize Num.ptW W a b (i - a) = ws at *
      generalize Num.ptJ J a b (i - a) = js at *
      generalize hrow : J.getD i [] = row at *
      generalize hwow : W.getD i [] = wrow at *
      obtain ⟨nr, hnr⟩ : ∃ nr, row.length = nr := ⟨_, rfl⟩
      rw [hnr] at hcj hkj
      obtain ⟨nw, hnw⟩ : ∃ nw, wrow.length = nw := ⟨_, rfl⟩
      rw [hnw] at hcw hkw
      obtain ⟨m, hm⟩ : ∃ m : Nat, m = b - i - 1 := ⟨_, rfl⟩
      have hm1 : IntKind.i64.wrap ((b : Int) - (i : Int)) = (m : Int) + 1 := by rw [IntWalk.i64_in _ (by omega)]; omega
      have hm2 : IntKind.i64.wrap ((m : Int) + 1 - 1) = (m : Int) := by rw [IntWalk.i64_in _ (by omega)]; omega
      have hm3 : IntKind.i64.wrap (m : Int) = (m : Int) := IntWalk.i64_in _ (by omega)
      have hm4 : (0 : Int) ≤ (m : Int) := by omega
      have hm5 : (m : Int) ≤ (cj : Int) := by omega
      have hlcm : ∀ k, k < m → (row.getD k []).length = O.length := fun k hk => hlc k (by omega)
      have HM := Lib.hid hm
      have HFA := Lib.hid hlcm
      have HFB : Hid (m ≤ row.length) := Lib.hid (by omega)
      have HFC : Hid (wrow.length = O.length ∧ O.length ≤ cw) := Lib.hid ⟨hlw, by omega⟩
      have HRJ := Lib.hid hrj
      have HRW := Lib.hid hrw
      rw [← hm] at HSJ
      have hmb : m ≤ 6 := by omega
      clear hm hlr hlw hlc hlcm hnr hnw hrj hrw hrow hwow
      obtain ⟨bx, x0, x1, x2⟩ := BX.out.c3
      subst hA2 hA1
      go_wp2_with (fail)
      have own9 : Hid (spII.own wr (fun _ => False) (.slice none 0 0) (Num.ptR row a b 0)) := Lib.hid (spL_nil _ _ _ _)
      generalize hWR : wr = W8 at *
      clear hWR
      go_loopw [9, 36] (fun s6 s7 wr => ∃ (k : Nat) (S3 : Nat → Prop), s7 = .int .i64 (k : Int) ∧ k ≤ m ∧ Hid (spII.own wr S3 s6 (Num.ptR row a b k)) ∧ Hid (∀ k, S3 k → W8.heap.size ≤ k) ∧ Below W8.heap.size W8 wr) (fun _ s7 _ => m - (intOf s7).toNat)
      case atStart => exact ⟨0, _, rfl, by omega, own9, Lib.hid (fun k hk => hk.elim), Below.refl _ _⟩
      case round =>
        clear own9
        obtain ⟨k, S3, rfl, hk, own, hS, be8⟩ := hrel
        by_cases hlk : k < m
        · have k0 : (0 : Int) ≤ (k : Int) := by omega
          have k1 : (k : Int) < (m : Int) := by omega
          have k2 : IntKind.i64.wrap ((k : Int) + 1) = (k : Int) + 1 := IntWalk.i64_in _ (by omega)
          obtain ⟨gq, oq, Bq, cq, hBj, hgq, hcq, -, hrq, hkq⟩ := (HRJ.out.below' be8) k (by have := HFB.out; omega)
          have hql := HFA.out k hlk
          rw [hql] at hcq hkq
          have hRQ := rdI_part (a := a) (b := b) hrq (by rw [hql]; exact hkq)
          have q1 : (b : Int) ≤ (cq : Int) := by omega
          have q2 : (a : Int) ≤ (cq : Int) := by omega
          rw [if_neg (by omega : ¬ cq = a)] at hRQ
          have HCL := Lib.hid (cloneI_any _ (cq - a) (Num.ptV a b (row.getD k [])) wr hRQ (by have := Num.ptV_le a b (row.getD k []) (by omega); omega))
          rw [Num.ptV_len (by rw [hql]; exact hb)] at HCL
          have HSK : Hid (Num.ptR row a b (k + 1) = Num.ptR row a b k ++ [Num.ptV a b (row.getD k [])]) := Lib.hid rfl
          have hlr : (Num.ptR row a b k).length ≤ 1000000 := by rw [Num.ptR_len]; omega
          generalize Num.ptR row a b k = rs at *
          generalize Num.ptV a b (row.getD k []) = un at *
          clear hrq hRQ hql
          subst hBj
          go_wp2_with (fail)
          refine HCL.out.mono ?_; rintro e w5 ⟨u5, rfl, ow5, hb5⟩
          obtain ⟨A6, n6, c6, rfl, e6⟩ := ow5.formN
          have HPA := spII.own_below own.out hb5
          have HPB := apart_row own.out ow5
          have HPC := spI_of ow5
          have L5 := bstep be8 be8.size hb5
          go_wp2_with (first | (at_builtin; refine wpList_push (s := spI) (nul := []) w5 rfl _ _ 25 24 rfl Try.underlying25 infoII S3 (fun k => (Value.slice A6 n6 c6).ownBlock = some k) u9 (.slice A6 n6 c6) rs un rfl rfl HPA HPC rfl HPB hlr ?_; intro v9 w9 S9 own9 hS9 ch9 fm9))
          have HO9 : Hid (spII.own w9 S9 v9 (Num.ptR row a b (k + 1))) := Lib.hid (by rw [HSK.out]; exact own9)
          have L9 := bstepS L5 L5.size hS.out ch9
          have HS9 : Hid (∀ k, S9 k → W8.heap.size ≤ k) := Lib.hid fun q hq => by
            rcases hS9 q hq with h | h | h
            · exact hS.out q h
            · have := ow5.base_le q h; have := be8.size; omega
            · have := L5.size; omega
          go_wp2_with (fail)
          exact ⟨⟨k + 1, S9, by first | rfl | go_num | (congr 1; omega) | (simp; omega), by omega, HO9, HS9, L9⟩, by simp [intOf]; omega⟩
        · have hge : ¬ ((k : Int) < (m : Int)) := by omega
          obtain rfl : k = m := by omega
          generalize hRK : Num.ptR row a b k = rk at *
          obtain ⟨A6, c6, e6, -⟩ := spII.own_rd own.out
          obtain ⟨n6, hn6⟩ : ∃ n6, rk.length = n6 := ⟨_, rfl⟩
          rw [hn6] at e6
          subst e6
          have HRK := Lib.hid hRK
          clear hn6 hRK
          have PBx := PB.out.below be8
          have BXx := BX.out.below be8
          obtain ⟨bl, x0, x1, x2⟩ := PBx.box.c3
          obtain ⟨bx, p0, p1, p2⟩ := BXx.c3
          have fr := PBx.box.free 1
          have hgw3 := Nat.lt_of_lt_of_le hgw be8.size
          have hcw3 : wr.cell? ⟨gw, ow + i, none⟩ = some (.slice Bw nw cw) := by rw [be8.cell hgw]; exact hcw
          have hRW3 := rdI_part (a := a) (b := b) ((HRW.out.below' be8).below' (Below.refl _ _).drew) (by have := HFC.out; rw [this.1]; exact this.2 : wrow.length ≤ cw)
          have hnwb : (b : Int) ≤ (cw : Int) := by have := HFC.out; omega
          have hnwa : (a : Int) ≤ (cw : Int) := by omega
          have HCW := Lib.hid (cloneI_any _ (cw - a) (Num.ptV a b wrow) wr.drew hRW3 (by have := Num.ptV_le a b wrow (by have := HFC.out; omega); omega))
          rw [Num.ptV_len (by have := HFC.out; omega)] at HCW
          generalize Num.ptV a b wrow = wv at *
          have HBE := Lib.hid be8
          have HPBx := Lib.hid PBx
          have HBXx := Lib.hid BXx
          clear hRW3 PBx BXx
          go_wp2_with (fail)
          go_region_law (first
            | (go_simp; go_at_call 69; refine HCW.out.mono ?_; rintro e w3 ⟨u3, rfl, o3, hb3⟩; obtain ⟨A3, n3, c3, rfl, e3⟩ := o3.formN; have L3 : Below wr.heap.size wr w3 := (Below.refl _ _).drew.trans hb3; have SM3 : w3.cell? ⟨b4, 1, none⟩ = some (.slice A1' (i - a) c1') := (by rw [L3.cell bl]; exact x1); have HPB3 := Lib.hid (HPBx.out.below L3); have HPA := HPB3.out.o1; have HPC := spI_of o3; have HPB : ∀ k, S1 k → ¬ ((Value.slice A3 n3 c3).ownBlock = some k) := (fun k h1 h2 => by have := spII.own_lt HPBx.out.o1 h1; have := World.ownsRow.lt o3 k h2; simp only [World.size_drew] at this; omega); have t3 : b4 < w3.heap.size := Nat.lt_of_lt_of_le bl L3.size)
            | (refine step_push (s := spI) (nul := []) w3 rfl (.tmp 50) (.tmp 60) 25 24 rfl Try.underlying25 infoII S1 (fun k => (Value.slice A3 n3 c3).ownBlock = some k) (.slice A1' (i - a) c1') (.slice A3 n3 c3) ws wv rfl rfl HPA HPC rfl HPB hlW' ?_; intro v7 w7 S7 own7 hS7 ch7 fm7; obtain ⟨A7, c7, rfl⟩ := fm7; have SM7 : w7.cell? ⟨b4, 1, none⟩ = some (.slice A1' (i - a) c1') := (by have h9 := (HPB3.out.box.chg ch7 (fun hh => (HPB3.out.s1 _ hh).2 rfl)).cell 1 (by simp); exact h9); have SF7 : w7.frozen? ⟨b4, 1, none⟩ = false := (HPB3.out.box.chg ch7 (fun hh => (HPB3.out.s1 _ hh).2 rfl)).free 1))
          all_goals
            have CH8 : ChgS S1 W8 w7 := ((ChgS.of_below HBE.out).trans (ChgS.of_below L3)).trans ch7
            have PB8 := PB.out.putW CH8 own7 (fun k hk => by
              have hq1 := HBE.out.size
              have hq2 := L3.size
              rcases hS7 k hk with h | h | h
              · exact .inl h
              · exact .inr (by have := (World.ownsRow.lt o3 k h).1; simp only [World.size_drew] at this; omega)
              · exact .inr (by omega))
            have L8 := (bstepS bel Z (fun k hk => by have := PB.out.s1 k hk; omega) CH8).setCell (p := ⟨b4, 1, none⟩) (by simp; omega) (.slice A7 (ws.length + 1) c7)
            have BR8 := (BR.out.chg CH8 (fun hh => by have := PB.out.s1 _ hh; omega)).other (p := ⟨b4, 1, none⟩) (by simp; omega) (.slice A7 (ws.length + 1) c7)
            have BX8 := (BX.out.chg CH8 (fun hh => by have := PB.out.s1 _ hh; omega)).other (p := ⟨b4, 1, none⟩) (by simp; omega) (.slice A7 (ws.length + 1) c7)
            have hb8 := PB.out.box.lt
            have hB8 := PB.out.hB
            have OW8 : spII.own (w7.setCell ⟨b4, 1, none⟩ (.slice A7 (ws.length + 1) c7)) S3 (.slice A6 n6 c6) rk := spII.own_set (spII.own_chg (spII.own_below own.out L3) ch7 (fun k h1 h2 => by have := spII.own_lt PB.out.o1 h2; have := hS.out k h1; omega)) (p := ⟨b4, 1, none⟩) (fun hh => by have h9 : W8.heap.size ≤ b4 := hS.out _ hh; omega) _
            have HS3 : Hid (∀ k, S3 k → ¬ (Value.slice A9 n9 c9).ownBlock = some k ∧ ¬ S7 k ∧ z0 ≤ k ∧ k ≠ b4) := Lib.hid fun k hk => by
              have h1 := hS.out k hk
              have h2 := spII.own_lt own.out hk
              have hq2 := L3.size
              refine ⟨fun h => by have := spI.own_lt PB.out.o0 h; omega, fun h => ?_, by omega, by omega⟩
              rcases hS7 k h with h3 | h3 | h3
              · have := spII.own_lt PB.out.o1 h3; omega
              · have := (World.ownsRow.lt o3 k h3).1; simp only [World.size_drew] at this; omega
              · omega
            have HPD : ∀ k, S2 k → ¬ S3 k := fun k h1 h2 => by have := spIII.own_lt PB.out.o2 h1; have := hS.out k h2; omega
            have HPB8 := Lib.hid PB8
            have HBR8 := Lib.hid BR8
            have HBX8 := Lib.hid BX8
            have HOW8 := Lib.hid OW8
            clear PB8 BR8 BX8 CH8 own7 ch7 hS7 SM7 SF7 PB BR BX HPB3 HPA HPC HPB o3 L3 SM3 bel x0 x1 x2 fr bl t3 OW8 own hS be8 HBE HPBx HBXx HCW p0 p1 p2 bx hgw3 hcw3 hb3
            obtain ⟨W9, hW9⟩ : ∃ X, w7.setCell ⟨b4, 1, none⟩ (.slice A7 (ws.length + 1) c7) = X := ⟨_, rfl⟩
            rw [hW9] at HPB8 HBR8 HBX8 L8 HOW8
            obtain ⟨bl, x0, x1, x2⟩ := HPB8.out.box.c3
            have fr := HPB8.out.box.free 2
            have HPA := HPB8.out.o2
            have HPC := HOW8.out
            go_wp2_with (first | (at_builtin; refine wpList_push (s := spII) (nul := []) W9 rfl _ _ 26 25 rfl Try.underlying26 infoIII S2 S3 (.slice A2' (i - a) c2') (.slice A6 n6 c6) js rk rfl rfl HPA HPC rfl HPD hlJ' ?_; intro v9 w9 S9 own9 hS9 ch9 fm9; obtain ⟨A8, c8, rfl⟩ := fm9; obtain ⟨SB9, SM90, SM91, SM9⟩ := (HPB8.out.box.chg ch9 (fun hh => (HPB8.out.s2 _ hh).2 rfl)).c3; have SF9 : w9.frozen? ⟨b4, 2, none⟩ = false := (HPB8.out.box.chg ch9 (fun hh => (HPB8.out.s2 _ hh).2 rfl)).free 2))
            have PB10 := HPB8.out.putJ' ch9 own9 (fun k hk => by
              rcases hS9 k hk with h | h | h
              · exact .inl h
              · exact .inr (HS3.out k h)
              · exact .inr ⟨fun hh => by have := spI.own_lt HPB8.out.o0 hh; omega, fun hh => by have := spII.own_lt HPB8.out.o1 hh; omega, by have := HPB8.out.box.lt; have := HPB8.out.hB; omega, by have := HPB8.out.box.lt; omega⟩)
            have L10 := (bstepS L8 L8.size (fun k hk => by have := HPB8.out.s2 k hk; omega) ch9).setCell (p := ⟨b4, 2, none⟩) (by simp; omega) (.slice A8 (js.length + 1) c8)
            have BR10 := (HBR8.out.chg ch9 (fun hh => by have := HPB8.out.s2 _ hh; omega)).other (p := ⟨b4, 2, none⟩) (by simp; omega) (.slice A8 (js.length + 1) c8)
            have BX10 := (HBX8.out.chg ch9 (fun hh => by have := HPB8.out.s2 _ hh; omega)).other (p := ⟨b4, 2, none⟩) (by simp; omega) (.slice A8 (js.length + 1) c8)
            rw [← HSW.out, ← HSJ.out] at PB10
            have HPB10 := Lib.hid PB10
            have HBR10 := Lib.hid BR10
            have HBX10 := Lib.hid BX10
            clear PB10 BR10 BX10
            go_wp2_with (fail)
            exact ⟨⟨i + 1, _, _, _, _, by go_num, by omega, by omega, HPB10, HBR10, HBX10, L10⟩, by simp [intOf]; omega⟩
    · have hge : ¬ ((i : Int) < (b : Int)) := by omega
      obtain rfl : i = b := by omega
      obtain ⟨-, ⟨A1', c1', e1⟩, A2', c2', e2⟩ := PB.out.forms
      rw [Num.ptW_len] at e1
      rw [Num.ptJ_len] at e2
      subst e1 e2
      obtain ⟨bl, x0, x1, x2⟩ := PB.out.box.c3
      obtain ⟨br, r0, r1, r2⟩ := BR.out.c3
      obtain ⟨f0, f1, f2⟩ := BR.out.f3
      have hB8 := PB.out.hB
      have ne1 : ¬ (w.heap.size + 1 = b4) := by omega
      have ne2 : ¬ (b4 = w.heap.size + 1) := by omega
      have HPB := Lib.hid PB.out
      clear PB BR BX
      go_wp2_with (fail)
      refine bodyPost_ret (v := .agg #[.slice A9 n9 c9, .slice A1' (i - a) c1', .slice A2' (i - a) c2']) (by simp [results, Try.results59, go_sem, br, r0, r1, r2]) rfl ?_
      have ow := HPB.out.own
      have bs := HPB.out.base
      have nb : ¬ ((fun k => (Value.slice A9 n9 c9).ownBlock = some k ∨ S1 k ∨ S2 k) (w.heap.size + 1)) := fun hh => by have := bs _ hh; omega
      refine ⟨_, _, rfl, ?_, fun k hk => by have := bs k hk; omega, ?_⟩
      · have e : partP O W J a i = ⟨OV, Num.ptW W a i (i - a), Num.ptJ J a i (i - a)⟩ := by unfold partP; rw [HOV.out]
        rw [e]
        exact spPres.own_set (spPres.own_set (spPres.own_set ow (p := ⟨w.heap.size + 1, 0, none⟩) nb _) (p := ⟨w.heap.size + 1, 1, none⟩) nb _) (p := ⟨w.heap.size + 1, 2, none⟩) nb _
      · exact ((bel.setCell (p := ⟨w.heap.size + 1, 0, none⟩) (by simp) _).setCell (p := ⟨w.heap.size + 1, 1, none⟩) (by simp) _).setCell (p := ⟨w.heap.size + 1, 2, none⟩) (by simp) _
end Go.Proofs.Ytahmhdpgdhfjnaa
