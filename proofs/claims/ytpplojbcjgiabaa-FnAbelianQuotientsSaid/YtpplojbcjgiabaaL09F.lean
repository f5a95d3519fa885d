/- FromPrimary of the model. -/
import Derived.Test.YtpplojbcjgiabaaL09D
import Derived.Test.YtpplojbcjgiabaaL09E
namespace Go.Proofs.Ytpplojbcjgiabaa
open Go.RowKit
set_option linter.unusedVariables false
set_option linter.unusedSimpArgs false

theorem fromS_ne {S : List Int} (hs : S.Pairwise Num.leP) (h : ∀ z ∈ S, Num.PPow z) : ∀ x ∈ Num.fromS S, x ≠ 0 := fun x hx e => by
  obtain ⟨i1, i2⟩ := Num.fromS_ok _ S (Nat.le_refl _) hs h
  have h0 : 0 < Num.cntQ 0 (Num.fromS S) := Num.cntQ_pos.mpr ⟨x, hx, by rw [e]; exact Int.dvd_zero 0⟩
  rw [i2 0 (.inl rfl), Num.cntQ_pos] at h0
  obtain ⟨y, hy, hd⟩ := h0
  have := Int.zero_dvd.mp hd
  have := (h y hy).two
  omega
/-- What the program makes of orders, where the model's factors are known. -/
theorem dir_is {gs S : List Int} {n : Nat} (hs : S.Pairwise Num.leP) (h : ∀ z ∈ S, Num.PPow z) (hc : Num.chR gs = List.replicate n 0 ++ Num.fromS S) :
    rDir gs = (if Num.abB (Num.fromS S).reverse (n : Int) = true then ⟨(Num.fromS S).reverse, (n : Int)⟩ else ⟨[], 0⟩) ∧ cDir gs = (if Num.abB (Num.fromS S).reverse (n : Int) = true then 0 else 3) := by
  have hd := Num.zeros_dc (Num.fromS_ok _ S (Nat.le_refl _) hs h).1 n
  have ha := Num.ab_of hd
  obtain ⟨f1, f2⟩ := Num.fin_zeros (fromS_ne hs h) n
  unfold rDir cDir
  rw [Num.chC_eq, hc]
  rw [f1, f2] at ha ⊢
  rw [ha]
  by_cases hk : Num.OkD (List.replicate n 0 ++ Num.fromS S)
  · rw [if_pos hk, if_pos hk, if_pos (decide_eq_true hk), if_pos (decide_eq_true hk)]
    exact ⟨rfl, rfl⟩
  · rw [if_neg hk, if_neg hk, decide_eq_false hk]
    exact ⟨rfl, rfl⟩
theorem ab_big {F : List Int} {K : Int} (h : ¬ ∀ f ∈ F, f ≤ 1000000) : Num.abB F.reverse K = false := by
  cases hb : Num.abB F.reverse K with
  | false => rfl
  | true =>
    refine absurd (fun f hf => ?_) h
    have hm : f ∈ F.reverse := by simpa using hf
    obtain ⟨j, hj, rfl⟩ := List.mem_iff_getElem.mp hm
    have := ((Num.abB_out hb).2.2.2.1 j hj).2
    rw [List.getD_eq_getElem?_getD, List.getElem?_eq_getElem hj] at this
    exact this
set_option maxRecDepth 100000 in
set_option maxHeartbeats 1000000 in
theorem sMade_any (A : Option Addr) (c : Nat) (F : List Int) (K : Int) (w : World) (h : spI.rd w (.slice A F.length c) F) :
    Calls Try.prog 55 #[.slice A F.length c, .int .i64 K] w fun e w' => e = .returned (.tuple (if Num.abB F K = true then #[.agg #[.slice A F.length c, .int .i64 K], .int .i64 0] else #[.agg #[.slice none 0 0, .int .i64 0], .int .i64 3])) ∧ Below w.heap.size w w' := by
  have L0 : Below w.heap.size w ((w.alloc (.cells [.slice none 0 0, (.int .i64 0 : Value)].toArray 40)).alloc (.cells [.slice A F.length c, .int .i64 K].toArray 40)) := by go_grown
  have BR0 : Blk ((w.alloc (.cells [.slice none 0 0, (.int .i64 0 : Value)].toArray 40)).alloc (.cells [.slice A F.length c, .int .i64 K].toArray 40)) w.heap.size [.slice none 0 0, (.int .i64 0 : Value)] 40 := (Blk.new w _ _).alloc _
  have BA0 : Blk ((w.alloc (.cells [.slice none 0 0, (.int .i64 0 : Value)].toArray 40)).alloc (.cells [.slice A F.length c, .int .i64 K].toArray 40)) (w.heap.size + 1) [.slice A F.length c, .int .i64 K] 40 := by have := Blk.new (w.alloc (.cells [.slice none 0 0, (.int .i64 0 : Value)].toArray 40)) [.slice A F.length c, .int .i64 K] 40; rwa [World.size_alloc] at this
  have K0 : spAb.rd ((w.alloc (.cells [.slice none 0 0, (.int .i64 0 : Value)].toArray 40)).alloc (.cells [.slice A F.length c, .int .i64 K].toArray 40)) (.agg #[.slice A F.length c, .int .i64 K]) ⟨F, K⟩ := ⟨_, rfl, spI.rd_below h L0⟩
  have HC0 := sIsAb_any _ _ _ K0
  rw [show Ab.ok ⟨F, K⟩ = Num.abB F K from rfl] at HC0
  have hAA := h
  obtain ⟨A', c', e', -, -⟩ := hAA
  clear h K0 e'
  cases hk : Num.abB F K with
  | true =>
    rw [hk] at HC0
    have HC := Lib.hid HC0
    clear HC0 hk
    obtain ⟨bl, a0, a1⟩ := BA0.c2
    go_enter Try.func55, Try.ntmps55
    go_wp2_with (fail)
    refine HC.out.mono ?_; rintro e w1 ⟨rfl, hb⟩
    have L1 := bstep L0 L0.size hb
    obtain ⟨q2, q0, q1⟩ := (BA0.below hb).c2
    obtain ⟨r2, r0, r1⟩ := (BR0.below hb).c2
    have f0 := (BR0.below hb).free 0
    have f1 := (BR0.below hb).free 1
    have L2 := (L1.setCell (p := ⟨w.heap.size, 0, none⟩) (by simp) (.slice A F.length c)).setCell (p := ⟨w.heap.size, 1, none⟩) (by simp) (.int .i64 K)
    clear HC hb bl a0 a1 L0 L1 BA0 BR0
    go_wp2_with (fail)
    refine bodyPost_ret (v := .tuple #[.agg #[.slice A F.length c, .int .i64 K], .int .i64 0]) (by simp [results, Try.results55, go_sem, r2, r0, r1]) rfl ?_
    exact ⟨by simp, L2⟩
  | false =>
    rw [hk] at HC0
    have HC := Lib.hid HC0
    clear HC0 hk
    obtain ⟨bl, a0, a1⟩ := BA0.c2
    go_enter Try.func55, Try.ntmps55
    go_wp2_with (fail)
    refine HC.out.mono ?_; rintro e w1 ⟨rfl, hb⟩
    have L1 := bstep L0 L0.size hb
    obtain ⟨r2, r0, r1⟩ := (BR0.below hb).c2
    have f0 := (BR0.below hb).free 0
    have f1 := (BR0.below hb).free 1
    have L2 := (L1.setCell (p := ⟨w.heap.size, 0, none⟩) (by simp) (.slice none 0 0)).setCell (p := ⟨w.heap.size, 1, none⟩) (by simp) (.int .i64 0)
    clear HC hb bl a0 a1 L0 L1 BA0 BR0
    go_wp2_with (fail)
    refine bodyPost_ret (v := .tuple #[.agg #[.slice none 0 0, .int .i64 0], .int .i64 3]) (by simp [results, Try.results55, go_sem, r2, r0, r1]) rfl ?_
    exact ⟨by simp, L2⟩
theorem ppB_pow {z : Int} (h : Num.ppB z = true) : Num.PPow z ∧ z ≤ 1000000 := by
  have := of_decide_eq_true h
  exact ⟨Num.ppow_of this.1 this.2.2, this.2.1⟩
/-- An owned list as a group. -/
theorem MadeC.group {w w' : World} {A : Option Addr} {c : Nat} {F : List Int} {K : Int} (ho : OwnI w' w.heap.size (.slice A F.length c) F) (hl : F.length ≤ 1000000000) (hb : Below w.heap.size w w') : MadeC spAb ⟨F, K⟩ 0 w (.returned (.tuple #[.agg #[.slice A F.length c, .int .i64 K], .int .i64 0])) w' :=
  ⟨_, (fun k => (Value.slice A F.length c).ownBlock = some k), rfl, ⟨_, _, rfl, spI_of ho, fun k hk => hk, fun k hk => (World.ownsRow.lt ho k hk).2⟩, fun k hk => (World.ownsRow.lt ho k hk).1, hl, hb⟩
end Go.Proofs.Ytpplojbcjgiabaa
