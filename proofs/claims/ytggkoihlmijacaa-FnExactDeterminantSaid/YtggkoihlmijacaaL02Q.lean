/- The rows of a matrix as residues. -/
import Derived.Test.YtggkoihlmijacaaL02O
import Derived.Test.YtggkoihlmijacaaL02C
namespace Go.Proofs.Ytggkoihlmijacaa
open Go.RowKit
set_option linter.unusedVariables false
set_option linter.unusedSimpArgs false

theorem infoRow : (Try.prog.info? 56).map (fun i => (i.zero, i.size, i.bytes)) = some (some (.slice none 0 0), 1, 24) := by kernel_rfl
theorem Num.Vec.map_mod {p : Int} {n : Nat} {v : List Int} (h : Num.Vec p n v) : v.map (· % p) = v := by
  refine Num.ext_getD 0 (by simp) fun i hi => ?_
  have hi' : i < v.length := by simpa using hi
  rw [Num.getD_lt _ _ hi, List.getElem_map, ← Num.getD_lt v 0 hi']
  exact h.mod i
set_option maxRecDepth 100000 in
set_option maxHeartbeats 1000000 in
theorem rowsOf_any (v : Value) (x : Mat) (w : World) (h : spMat.rd w v x) (hok : x.ok = true) : Calls Try.prog 48 #[v] w (Made (spRR x.P) x.R w) := by
  obtain ⟨hgp, hp1, hp2, hC0, hC1, hR8, hV⟩ := Mat.ok_out hok
  obtain ⟨i0, hi, hz0, hz1, hz2⟩ := info_parts infoRow
  obtain ⟨A, n, c, rfl, r⟩ := spMat_form h
  obtain ⟨rfl, hm, -, -⟩ := rdII_of r
  have b0 : Below w.heap.size w (w.alloc (.cells [.int .i64 x.P, .int .i64 x.C, .slice A x.R.length c].toArray 27)) := by go_grown
  have B0 := Blk.new w [.int .i64 x.P, .int .i64 x.C, .slice A x.R.length c] 27
  have HR := Lib.hid r
  have HV := Lib.hid hV
  clear h r hV hm hok
  go_enter Try.func48, Try.ntmps48
  go_wp2_with (refine wpList_make_full _ rfl (.tmp 8) (.tmp 8) 51 rfl (w.heap.size + 1) 56 i0 (.slice none 0 0) 1 Try.underlying51 hi hz0 hz1 .i64 .i64 (x.R.length : Int) (x.R.length : Int) x.R.length rfl rfl rfl rfl (by rw [hz2]; omega) (by unfold maxLen; omega) (by simp) ?_; intro w1 own1 gr1; rw [World.size_alloc] at own1; have b1 : Below (w.alloc (.cells [.int .i64 x.P, .int .i64 x.C, .slice A x.R.length c].toArray 27)).heap.size (w.alloc (.cells [.int .i64 x.P, .int .i64 x.C, .slice A x.R.length c].toArray 27)) w1 := (Below.refl _ _).grown gr1 (Nat.le_refl _) (fun k hk => by simp at hk); have B1 := B0.below b1; have L1 := bstep b0 b0.size b1; obtain ⟨bl, c0, c1, c2⟩ := B1.c3; clear gr1 b1 B0)
  go_loopw [13] (fun s wr => ∃ j : Nat, s = .int .i64 j ∧ j ≤ x.R.length ∧ CopyTo 56 (spR x.P) [] (w.heap.size + 1) wr (.slice (some ⟨w.heap.size + 1, 0, none⟩) x.R.length x.R.length) x.R j ∧ Blk wr w.heap.size [.int .i64 x.P, .int .i64 x.C, .slice A x.R.length c] 27 ∧ Below w.heap.size w wr) (fun s _ => x.R.length - (intOf s).toNat)
  case atStart => exact ⟨0, rfl, by omega, ⟨_, fun _ _ => False, own1, fun i hi => by omega, fun i j _ hj => by omega, fun i hi => by omega⟩, B1, L1⟩
  case round =>
    obtain ⟨j, rfl, hj, own, BX, bel⟩ := hrel
    clear own1 bl c0 c1 c2 B1 L1
    by_cases hlt : j < x.R.length
    · obtain ⟨g, o, u, rfl, hg, hc, hru⟩ := spL_row (spII.rd_below HR.out bel) hlt
      obtain ⟨bl, c0, c1, c2⟩ := BX.c3
      have j0 : (0 : Int) ≤ (j : Int) := by omega
      have j1 : (j : Int) < (x.R.length : Int) := by omega
      have V := HV.out j hlt
      have vl := V.len
      have HT0 := residuesOf_any x.P u (x.R.getD j []) wr hru (by omega) (by omega) (by omega)
      rw [V.map_mod] at HT0
      have HT := Lib.hid HT0
      have HOWN := Lib.hid own
      have hz := bel.size
      clear HT0 V vl hru own
      go_wp2_with (fail)
      refine HT.out.mono ?_; rintro e w2 ⟨u2, S2, rfl, ow2, hS2, b2⟩
      obtain ⟨A2, cap2, rfl, -⟩ := spR_form ((spR x.P).own_rd ow2)
      obtain ⟨⟨ov, hov⟩, hfz, st1, st2, hzz⟩ := HOWN.out.step hlt b2 ow2 hS2
      generalize (x.R.getD j []).length = n2 at *
      have B2 := (BX.below b2).other (p := ⟨w.heap.size + 1, j, none⟩) (by simp) (.slice A2 n2 cap2)
      have bel2 := (bel.trans (b2.mono hz)).grown st2 (by have := b2.size; omega) (fun k hk => by simp at hk; omega)
      have HST := Lib.hid st1
      clear st1 st2 ow2 HOWN HT hc hS2 b2 c0 c1 c2 bl
      go_wp2_with (fail)
      exact ⟨⟨j + 1, by go_num, by omega, HST.out, B2, bel2⟩, by simp [intOf]; omega⟩
    · have hge : ¬ ((j : Int) < (x.R.length : Int)) := by omega
      obtain rfl : j = x.R.length := by omega
      have HO := Lib.hid own.done
      clear own
      go_wp2_with (fail)
      go_ret
      exact Made.of rfl HO.out (fun k hk => by have := hk.1; omega) bel
end Go.Proofs.Ytggkoihlmijacaa
