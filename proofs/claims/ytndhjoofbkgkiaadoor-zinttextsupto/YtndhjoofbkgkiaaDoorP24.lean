/-
  Layer 2: texts of numbers, read and printed: zint's and the reference's, in all cases; limbs.
-/
import Derived.Test.YtndhjoofbkgkiaaDoorP15
import Derived.Test.YtndhjoofbkgkiaaDoorP08
import Derived.Test.YtndhjoofbkgkiaaDoorP18
import Derived.Test.YtndhjoofbkgkiaaDoorP17
import Derived.Test.YtndhjoofbkgkiaaDoorP06
namespace Go.Proofs.YtndhjoofbkgkiaaDoor
open Go.RowKit

theorem extract01 {s : ByteArray} (h : 0 < s.size) : (s.extract 0 1).toList = [s[0]'h] := by
  rw [ByteArray.toList_eq]
  have e : (s.extract 0 1).data = s.data.extract 0 1 := by simp [ByteArray.data_extract]
  rw [e]
  have h2 : 0 < s.data.size := h
  have e2 : (s.data.extract 0 1).toList = [s.data[0]'h2] := by
    rw [Array.toList_extract, List.extract_eq_take_drop]
    cases hq : s.data.toList with
    | nil => simp at hq; rw [hq] at h2; simp at h2
    | cons x r =>
      have hx : s.data[0]'h2 = x := by
        have h3 : s.data.toList[0]'(by simpa using h2) = x := by simp only [hq, List.getElem_cons_zero]
        simpa using h3
      rw [hx]
      simp
  rw [e2]
  rfl

theorem cutB_pos {s : ByteArray} (h : 0 < s.size) : cutB s = (((s[0]'h).toNat : Int) == 45) := by
  unfold cutB
  rw [extract01 h, decide_eq_true h, Bool.true_and]
  generalize s[0]'h = b
  by_cases hb : b = 45
  · subst hb; decide
  · have h1 : ([b] == [(45 : UInt8)]) = false := by simp [hb]
    rw [h1]
    symm
    rw [beq_eq_false_iff_ne]
    intro h2
    exact hb (UInt8.toNat_inj.1 (by have : b.toNat = 45 := by omega
                                    simpa using this))
theorem cutB_zero {s : ByteArray} (h : s.size = 0) : cutB s = false := by
  unfold cutB
  simp [h]
theorem cutB_lt {s : ByteArray} (h : cutB s = true) : 0 < s.size := by
  rcases Nat.eq_zero_or_pos s.size with h0 | h0
  · rw [cutB_zero h0] at h; cases h
  · exact h0

/-- is it a number's text? -/
abbrev pgood (s : ByteArray) : Prop := okText (cutR s) ∧ ¬ (cutB s = true ∧ dr (cutR s) 0 (cutR s).size = 0)
def perr (s : ByteArray) : Int := if pgood s then 0 else 12
def pval (s : ByteArray) : Int := if pgood s then sg (cutB s) (dr (cutR s) 0 (cutR s).size : Int) else 0

theorem cutR_t {s : ByteArray} (h : cutB s = true) : cutR s = s.extract 1 s.size := by unfold cutR; rw [h]; rfl
theorem cutR_f {s : ByteArray} (h : cutB s = false) : cutR s = s := by unfold cutR; rw [h]; rfl
theorem cutR_size (s : ByteArray) : (cutR s).size ≤ s.size := by
  unfold cutR
  split
  · rw [ByteArray.size_extract]; omega
  · exact Nat.le_refl _

theorem zn_zero (w : World) : Zn w false none 0 0 0 := ⟨0, ⟨[], ⟨rfl, by decide, by decide, fun z hz => (by cases hz), Or.inl ⟨rfl, rfl, rfl⟩⟩, canon_nil, rfl⟩, rfl, fun h => by cases h⟩

set_option maxRecDepth 100000 in
set_option maxHeartbeats 1600000 in
theorem zparse_yes (s : ByteArray) (w : World) (hs : s.size ≤ 1099511627776) (hg : pgood s) :
    Calls Tryd.prog 27 #[.string s] w fun e w' => ∃ s' ad len cap, e = .returned (.tuple #[.agg #[.bool s', .slice ad len cap], .int .i64 0]) ∧ Zn w' s' ad len cap (sg (cutB s) (dr (cutR s) 0 (cutR s).size : Int)) ∧ Below w.heap.size w w' ∧ len ≤ s.size := by
  have hsz := cutR_size s
  obtain ⟨hok, h0⟩ := hg
  go_enter Tryd.func27, Tryd.ntmps27
  go_wp2_with fail
  have y := zb_new w false none 0 0
  have b0 := below_alloc w (.cells #[.bool false, .slice none 0 0] 41)
  generalize w.alloc (.cells #[.bool false, .slice none 0 0] 41) = wb at *
  generalize hp : w.heap.size = r at *
  replace hp := hide hp
  refine (cutPrefix_n s wb).mono ?_
  rintro e w1 ⟨rfl, rfl⟩
  go_wp2_with fail
  refine (parse_n _ _ (by omega) hok).mono ?_
  rintro e w2 ⟨ad, len, cap, rfl, hcn, k2, hl'⟩
  have hlen := hcn.len
  have H0 : Hid (cutB s = true → 0 < len) := fun hc => Nat.pos_of_ne_zero (fun h => h0 ⟨hc, by have := hlen.2 h; omega⟩)
  clear h0 hlen
  cases hb : cutB s
  all_goals (
    try (have hlen1 := H0.out hb)
    replace hb := hide hb
    clear H0
    go_wp2_with fail
    refine (stand_n hcn).mono ?_
    rintro e w' ⟨s', rfl, hz, hg⟩
    have y' : ZB w' r false none 0 0 := ZB.below y (grow_step hg k2)
    have y0 := y'.c0
    have y1 := y'.c1
    have y2 := y'.f 0
    have y3 := y'.f 1
    have hB : Below r w w' := b0.trans ((grow_step hg k2).mono (Nat.le_of_lt y.lt))
    go_wp2
    refine bodyPost_ret (results_ct rfl _ _ r 41 _ (0, 0) _ rfl (zb_fin y' s' ad len cap) Tryd.underlying41 rfl (by kernel_rfl)) rfl ?_
    exact ⟨s', ad, len, cap, by simp, (by rw [unhide hb]; exact zb_zn y' hz _ _ _ _), hp.out.symm ▸ (hB.setCell (Nat.le_refl _) _).setCell (Nat.le_refl _) _, by omega⟩)

set_option maxRecDepth 100000 in
set_option maxHeartbeats 1600000 in
theorem zparse_no (s : ByteArray) (w : World) (hs : s.size ≤ 1099511627776) (hg : ¬ pgood s) :
    Calls Tryd.prog 27 #[.string s] w fun e w' => e = .returned (.tuple #[.agg #[.bool false, .slice none 0 0], .int .i64 12]) ∧ Below w.heap.size w w' := by
  have hsz := cutR_size s
  have HG := hide hg
  clear hg
  go_enter Tryd.func27, Tryd.ntmps27
  go_wp2_with fail
  have y := zb_new w false none 0 0
  have b0 := below_alloc w (.cells #[.bool false, .slice none 0 0] 41)
  generalize w.alloc (.cells #[.bool false, .slice none 0 0] 41) = wb at *
  generalize hp : w.heap.size = r at *
  replace hp := hide hp
  refine (cutPrefix_n s wb).mono ?_
  rintro e w1 ⟨rfl, rfl⟩
  go_wp2_with fail
  by_cases hok : okText (cutR s)
  · have hc : cutB s = true ∧ dr (cutR s) 0 (cutR s).size = 0 := Classical.byContradiction fun h => HG.out ⟨hok, h⟩
    rw [hc.1]
    refine (parse_n _ _ (by omega) hok).mono ?_
    rintro e w2 ⟨ad, len, cap, rfl, hcn, k2, hl'⟩
    obtain rfl : len = 0 := hcn.len.1 (by rw [hc.2]; rfl)
    have y' : ZB w2 r false none 0 0 := ZB.below y k2
    have y0 := y'.c0
    have y1 := y'.c1
    have y2 := y'.f 0
    have y3 := y'.f 1
    have hB : Below r w w2 := b0.trans (k2.mono (Nat.le_of_lt y.lt))
    clear hc hcn
    go_wp2
    refine bodyPost_ret (results_ct rfl _ _ r 41 _ (0, 0) _ rfl (zb_fin y' false none 0 0) Tryd.underlying41 rfl (by kernel_rfl)) rfl ?_
    exact ⟨by simp, hp.out.symm ▸ (hB.setCell (Nat.le_refl _) _).setCell (Nat.le_refl _) _⟩
  · refine (parse_no _ _ (by omega) hok).mono ?_
    rintro e w2 ⟨rfl, rfl⟩
    have y0 := y.c0
    have y1 := y.c1
    have y2 := y.f 0
    have y3 := y.f 1
    go_wp2
    refine bodyPost_ret (results_ct rfl _ _ r 41 _ (0, 0) _ rfl (zb_fin y false none 0 0) Tryd.underlying41 rfl (by kernel_rfl)) rfl ?_
    exact ⟨by simp, hp.out.symm ▸ (b0.setCell (Nat.le_refl _) _).setCell (Nat.le_refl _) _⟩

theorem zparse_any (s : ByteArray) (w : World) (hs : s.size ≤ 1099511627776) :
    Calls Tryd.prog 27 #[.string s] w fun e w' => ∃ s' ad len cap, e = .returned (.tuple #[.agg #[.bool s', .slice ad len cap], .int .i64 (perr s)]) ∧ Zn w' s' ad len cap (pval s) ∧ Below w.heap.size w w' ∧ len ≤ s.size := by
  by_cases h : pgood s
  · refine (zparse_yes s w hs h).mono ?_
    rintro e w' ⟨s', ad, len, cap, rfl, hz, hb, hl⟩
    exact ⟨s', ad, len, cap, by unfold perr; rw [if_pos h], by unfold pval; rw [if_pos h]; exact hz, hb, hl⟩
  · refine (zparse_no s w hs h).mono ?_
    rintro e w' ⟨rfl, hb⟩
    exact ⟨false, none, 0, 0, by unfold perr; rw [if_neg h], by unfold pval; rw [if_neg h]; exact zn_zero w', hb, Nat.zero_le _⟩

theorem out_nm {w w' : World} {ad : Option Addr} {len cap : Nat} {zs : List Int} {n : Int} (h : Out w w' ad len cap zs) (hv : val zs = n) : Nm w' ad len cap n := ⟨zs, h.rd, hv⟩

set_option maxRecDepth 100000 in
set_option maxHeartbeats 1600000 in
theorem rzparse_yes (s : ByteArray) (w : World) (hs : s.size ≤ 17179869184) (hg : pgood s) :
    Calls Tryd.prog 28 #[.string s] w fun e w' => ∃ s' ad len cap, e = .returned (.tuple #[.agg #[.bool s', .slice ad len cap], .int .i64 0]) ∧ Zn w' s' ad len cap (sg (cutB s) (dr (cutR s) 0 (cutR s).size : Int)) ∧ Below w.heap.size w w' ∧ len ≤ s.size := by
  have hsz := cutR_size s
  obtain ⟨hok, h0⟩ := hg
  have y := zb_new w false none 0 0
  have b0 := below_alloc w (.cells #[.bool false, .slice none 0 0] 41)
  cases hb : cutB s
  · have er := cutR_f hb
    rw [er] at hok hsz ⊢
    have hpos := hok.1
    have hne := ne_empty hpos
    have hh : (((s[0]'hpos).toNat : Int) == 45) = false := by rw [← cutB_pos hpos, hb]
    clear h0 hb er
    go_enter Tryd.func28, Tryd.ntmps28
    go_wp2_with fail
    generalize w.alloc (.cells #[.bool false, .slice none 0 0] 41) = wb at *
    generalize hp : w.heap.size = r at *
    replace hp := hide hp
    refine (refparse_yes s wb hs hok).mono ?_
    rintro e w2 ⟨ad, len, cap, zs, rfl, ho, hc, hv, hl'⟩
    have hcn := out_nm ho hv
    have k2 := ho.1
    go_wp2_with fail
    refine (rnorm_n (z := sg false (dr s 0 s.size : Int)) ⟨_, hcn, rfl⟩ (by omega)).mono ?_
    rintro e w' ⟨s', ad', len', cap', rfl, hz, hg, hl2⟩
    have y' : ZB w' r false none 0 0 := ZB.below y (grow_step hg k2)
    have y0 := y'.c0
    have y1 := y'.c1
    have y2 := y'.f 0
    have y3 := y'.f 1
    have hB : Below r w w' := b0.trans ((grow_step hg k2).mono (Nat.le_of_lt y.lt))
    clear hv
    go_wp2
    refine bodyPost_ret (results_ct rfl _ _ r 41 _ (0, 0) _ rfl (zb_fin y' s' ad' len' cap') Tryd.underlying41 rfl (by kernel_rfl)) rfl ?_
    exact ⟨s', ad', len', cap', by simp, zb_zn y' hz _ _ _ _, hp.out.symm ▸ (hB.setCell (Nat.le_refl _) _).setCell (Nat.le_refl _) _, by omega⟩
  · have er := cutR_t hb
    have hpos := cutB_lt hb
    have hne := ne_empty hpos
    have hh : (((s[0]'hpos).toNat : Int) == 45) = true := by rw [← cutB_pos hpos, hb]
    rw [er] at hok hsz h0 ⊢
    have h01 : dr (s.extract 1 s.size) 0 (s.extract 1 s.size).size ≠ 0 := fun h => h0 ⟨hb, h⟩
    clear h0 hb er
    go_enter Tryd.func28, Tryd.ntmps28
    go_wp2_with fail
    generalize w.alloc (.cells #[.bool false, .slice none 0 0] 41) = wb at *
    generalize hp : w.heap.size = r at *
    replace hp := hide hp
    refine (refparse_yes _ wb (by omega) hok).mono ?_
    rintro e w2 ⟨ad, len, cap, zs, rfl, ho, hc, hv, hl'⟩
    have hcn := out_nm ho hv
    have k2 := ho.1
    go_wp2_with fail
    refine (trim_n hcn (by omega)).mono ?_
    rintro e w3 ⟨ad3, len3, cap3, rfl, hcn3, k3, hl3⟩
    have hl30 : 0 < len3 := Nat.pos_of_ne_zero (fun h => h01 (by have := hcn3.len.2 h; omega))
    go_wp2_with fail
    refine (rnorm_n (z := sg true (dr (s.extract 1 s.size) 0 (s.extract 1 s.size).size : Int)) ⟨_, hcn.below k3, rfl⟩ (by omega)).mono ?_
    rintro e w' ⟨s', ad', len', cap', rfl, hz, hg, hl2⟩
    have kk := grow_step hg (grow_step k3 k2)
    have y' : ZB w' r false none 0 0 := ZB.below y kk
    have y0 := y'.c0
    have y1 := y'.c1
    have y2 := y'.f 0
    have y3 := y'.f 1
    have hB : Below r w w' := b0.trans (kk.mono (Nat.le_of_lt y.lt))
    clear hv
    go_wp2
    refine bodyPost_ret (results_ct rfl _ _ r 41 _ (0, 0) _ rfl (zb_fin y' s' ad' len' cap') Tryd.underlying41 rfl (by kernel_rfl)) rfl ?_
    exact ⟨s', ad', len', cap', by simp, zb_zn y' hz _ _ _ _, hp.out.symm ▸ (hB.setCell (Nat.le_refl _) _).setCell (Nat.le_refl _) _, by omega⟩
set_option maxRecDepth 100000 in
set_option maxHeartbeats 1600000 in
theorem rzparse_no (s : ByteArray) (w : World) (hs : s.size ≤ 17179869184) (hg : ¬ pgood s) :
    Calls Tryd.prog 28 #[.string s] w fun e w' => e = .returned (.tuple #[.agg #[.bool false, .slice none 0 0], .int .i64 12]) ∧ Below w.heap.size w w' := by
  have hsz := cutR_size s
  have HG := hide hg
  clear hg
  have y := zb_new w false none 0 0
  have b0 := below_alloc w (.cells #[.bool false, .slice none 0 0] 41)
  cases hb : cutB s
  · have er := cutR_f hb
    have hno : ¬ okText s := fun h => HG.out ⟨by rw [er]; exact h, fun h => by rw [hb] at h; cases h.1⟩
    have HNO := hide hno
    rcases Nat.eq_zero_or_pos s.size with h0 | hpos
    · have hne := is_empty h0
      clear hb er hno HG
      go_enter Tryd.func28, Tryd.ntmps28
      go_wp2_with fail
      generalize w.alloc (.cells #[.bool false, .slice none 0 0] 41) = wb at *
      generalize hp : w.heap.size = r at *
      replace hp := hide hp
      refine (refparse_no s wb (by omega) HNO.out).mono ?_
      rintro e w2 ⟨rfl, rfl⟩
      have y0 := y.c0
      have y1 := y.c1
      have y2 := y.f 0
      have y3 := y.f 1
      go_wp2
      refine bodyPost_ret (results_ct rfl _ _ r 41 _ (0, 0) _ rfl (zb_fin y false none 0 0) Tryd.underlying41 rfl (by kernel_rfl)) rfl ?_
      exact ⟨by simp, hp.out.symm ▸ (b0.setCell (Nat.le_refl _) _).setCell (Nat.le_refl _) _⟩
    · have hne := ne_empty hpos
      have hh : (((s[0]'hpos).toNat : Int) == 45) = false := by rw [← cutB_pos hpos, hb]
      clear hb er hno HG
      go_enter Tryd.func28, Tryd.ntmps28
      go_wp2_with fail
      generalize w.alloc (.cells #[.bool false, .slice none 0 0] 41) = wb at *
      generalize hp : w.heap.size = r at *
      replace hp := hide hp
      refine (refparse_no s wb (by omega) HNO.out).mono ?_
      rintro e w2 ⟨rfl, rfl⟩
      have y0 := y.c0
      have y1 := y.c1
      have y2 := y.f 0
      have y3 := y.f 1
      go_wp2
      refine bodyPost_ret (results_ct rfl _ _ r 41 _ (0, 0) _ rfl (zb_fin y false none 0 0) Tryd.underlying41 rfl (by kernel_rfl)) rfl ?_
      exact ⟨by simp, hp.out.symm ▸ (b0.setCell (Nat.le_refl _) _).setCell (Nat.le_refl _) _⟩
  · have er := cutR_t hb
    have hpos := cutB_lt hb
    have hne := ne_empty hpos
    have hh : (((s[0]'hpos).toNat : Int) == 45) = true := by rw [← cutB_pos hpos, hb]
    rw [er] at hsz
    by_cases hok : okText (s.extract 1 s.size)
    · have hz : dr (s.extract 1 s.size) 0 (s.extract 1 s.size).size = 0 := Classical.byContradiction fun h => HG.out ⟨by rw [er]; exact hok, fun h' => h (by rw [er] at h'; exact h'.2)⟩
      clear hb er HG
      have HZ := hide hz
      clear hz
      go_enter Tryd.func28, Tryd.ntmps28
      go_wp2_with fail
      generalize w.alloc (.cells #[.bool false, .slice none 0 0] 41) = wb at *
      generalize hp : w.heap.size = r at *
      replace hp := hide hp
      refine (refparse_yes _ wb (by omega) hok).mono ?_
      rintro e w2 ⟨ad, len, cap, zs, rfl, ho, hc, hv, hl'⟩
      have hcn := out_nm ho hv
      have k2 := ho.1
      go_wp2_with fail
      refine (trim_n hcn (by omega)).mono ?_
      rintro e w3 ⟨ad3, len3, cap3, rfl, hcn3, k3, hl3⟩
      obtain rfl : len3 = 0 := hcn3.len.1 (by rw [unhide HZ]; rfl)
      have kk := grow_step k3 k2
      have y' : ZB w3 r false none 0 0 := ZB.below y kk
      have y0 := y'.c0
      have y1 := y'.c1
      have y2 := y'.f 0
      have y3 := y'.f 1
      have hB : Below r w w3 := b0.trans (kk.mono (Nat.le_of_lt y.lt))
      clear hv hcn hcn3
      go_wp2
      refine bodyPost_ret (results_ct rfl _ _ r 41 _ (0, 0) _ rfl (zb_fin y' false none 0 0) Tryd.underlying41 rfl (by kernel_rfl)) rfl ?_
      exact ⟨by simp, hp.out.symm ▸ (hB.setCell (Nat.le_refl _) _).setCell (Nat.le_refl _) _⟩
    · clear hb er HG
      have HNO := hide hok
      clear hok
      go_enter Tryd.func28, Tryd.ntmps28
      go_wp2_with fail
      generalize w.alloc (.cells #[.bool false, .slice none 0 0] 41) = wb at *
      generalize hp : w.heap.size = r at *
      replace hp := hide hp
      refine (refparse_no _ wb (by omega) HNO.out).mono ?_
      rintro e w2 ⟨rfl, rfl⟩
      have y0 := y.c0
      have y1 := y.c1
      have y2 := y.f 0
      have y3 := y.f 1
      go_wp2
      refine bodyPost_ret (results_ct rfl _ _ r 41 _ (0, 0) _ rfl (zb_fin y false none 0 0) Tryd.underlying41 rfl (by kernel_rfl)) rfl ?_
      exact ⟨by simp, hp.out.symm ▸ (b0.setCell (Nat.le_refl _) _).setCell (Nat.le_refl _) _⟩

theorem rzparse_any (s : ByteArray) (w : World) (hs : s.size ≤ 17179869184) :
    Calls Tryd.prog 28 #[.string s] w fun e w' => ∃ s' ad len cap, e = .returned (.tuple #[.agg #[.bool s', .slice ad len cap], .int .i64 (perr s)]) ∧ Zn w' s' ad len cap (pval s) ∧ Below w.heap.size w w' ∧ len ≤ s.size := by
  by_cases h : pgood s
  · refine (rzparse_yes s w hs h).mono ?_
    rintro e w' ⟨s', ad, len, cap, rfl, hz, hb, hl⟩
    exact ⟨s', ad, len, cap, by unfold perr; rw [if_pos h], by unfold pval; rw [if_pos h]; exact hz, hb, hl⟩
  · refine (rzparse_no s w hs h).mono ?_
    rintro e w' ⟨rfl, hb⟩
    exact ⟨false, none, 0, 0, by unfold perr; rw [if_neg h], by unfold pval; rw [if_neg h]; exact zn_zero w', hb, Nat.zero_le _⟩

theorem cons_data (l : List UInt8) : (⟨#[45]⟩ ++ ⟨l.toArray⟩ : ByteArray) = ⟨(45 :: l).toArray⟩ := by
  apply ByteArray.ext
  apply Array.toList_inj.1
  simp

theorem cut_cons (l : List UInt8) : cutB ⟨(45 :: l).toArray⟩ = true ∧ cutR ⟨(45 :: l).toArray⟩ = ⟨l.toArray⟩ := by
  have hs : (⟨(45 :: l).toArray⟩ : ByteArray).size = l.length + 1 := by rw [size_list']; rfl
  have hb : cutB ⟨(45 :: l).toArray⟩ = true := by
    rw [cutB_pos (by omega)]
    rfl
  refine ⟨hb, ?_⟩
  rw [cutR_t hb, hs]
  apply ByteArray.ext
  apply Array.toList_inj.1
  simp [ByteArray.data_extract]

/-- what is printed is read -/
theorem back_good (z : Int) : pgood (zText z) ∧ perr (zText z) = 0 ∧ pval (zText z) = z := by
  have key : pgood (zText z) ∧ sg (cutB (zText z)) (dr (cutR (zText z)) 0 (cutR (zText z)).size : Int) = z := by
    by_cases hz : z < 0
    · have e : zText z = ⟨(45 :: Lib.decDigits (-z).toNat).toArray⟩ := by unfold zText; rw [if_pos hz, cons_data]
      obtain ⟨h1, h2⟩ := cut_cons (Lib.decDigits (-z).toNat)
      rw [e]
      unfold pgood
      rw [h1, h2, dec_dr]
      refine ⟨⟨dec_ok _, fun h => ?_⟩, ?_⟩
      · have := h.2; omega
      · simp only [sg, if_true]; omega
    · have e : zText z = ⟨(Lib.decDigits z.toNat).toArray⟩ := by unfold zText; rw [if_neg hz]
      have hok := dec_ok z.toNat
      have hb : cutB ⟨(Lib.decDigits z.toNat).toArray⟩ = false := by
        rw [cutB_pos hok.1, beq_eq_false_iff_ne]
        have h3 := (hok.2.2 0 hok.1).1
        rw [bt_eq _ 0 hok.1] at h3
        omega
      have h2 := cutR_f hb
      rw [e]
      unfold pgood
      rw [hb, h2, dec_dr]
      refine ⟨⟨hok, fun h => by cases h.1⟩, ?_⟩
      simp only [sg, Bool.false_eq_true, if_false]
      omega
  refine ⟨key.1, ?_, ?_⟩
  · unfold perr; rw [if_pos key.1]
  · unfold pval; rw [if_pos key.1]; exact key.2

set_option maxRecDepth 100000 in
set_option maxHeartbeats 1600000 in
theorem rtext_n {s : Bool} {a : Option Addr} {l c : Nat} {z : Int} {w : World} (h : Zm w s a l c z) (hl : l ≤ 17179869184) :
    Calls Tryd.prog 32 #[.agg #[.bool s, .slice a l c]] w fun e w' => e = .returned (.string (zText z)) ∧ Below w.heap.size w w' := by
  obtain ⟨n, hn, rfl⟩ := h
  have h0 := hn.nonneg
  go_enter Tryd.func32, Tryd.ntmps32
  go_wp2_with fail
  have x := zb_new w s a l c
  have b0 := below_alloc w (.cells #[.bool s, .slice a l c] 41)
  replace hn := hn.below b0
  generalize w.alloc (.cells #[.bool s, .slice a l c] 41) = wb at *
  generalize hp : w.heap.size = p at *
  replace hp := hide hp
  have u1 := x.c1
  have u0 := x.c0
  go_wp2_with fail
  obtain ⟨xs, hx, hv⟩ := id hn
  refine (reftext_any hx hl).mono ?_
  rintro e w1 ⟨rfl, k1⟩
  rw [hv]
  clear u0 u1
  have u1 := (x.below k1).c1
  have u0 := (x.below k1).c0
  have hd := dec_bound hn
  replace hn := hn.below k1
  have hB : Below p w w1 := b0.trans (k1.mono (Nat.le_of_lt x.lt))
  clear hx hv
  go_wp2_with fail
  refine (rsign_n ⟨n, hn, rfl⟩ (by omega)).mono ?_
  rintro e w2 ⟨rfl, k2⟩
  have hB2 : Below p w w2 := hB.trans (k2.mono (Nat.le_trans (Nat.le_of_lt x.lt) k1.size))
  by_cases hz : sg s n < 0
  · rw [cmpI_lt hz]
    have hn' : -sg s n = n := by cases s <;> simp [sg] at hz ⊢; omega
    go_wp2
    go_ret
    exact ⟨by unfold zText; rw [if_pos hz, hn']; rfl, hp.out.symm ▸ hB2⟩
  · have hc : ¬ cmpI (sg s n) 0 < 0 := by unfold cmpI; rw [if_neg hz]; split <;> decide
    have hn' : sg s n = n := by cases s <;> simp [sg] at hz ⊢; omega
    rw [hn'] at hz hc ⊢
    generalize cmpI n 0 = cc at *
    go_wp2
    go_ret
    exact ⟨by unfold zText; rw [if_neg (by omega), hn']; rfl, hp.out.symm ▸ hB2⟩

theorem limbs_bits {xs : List Int} {l : Nat} (hL : Limbs xs) (hl : xs.length = l) : ((bitsL (trim xs) : Int) + 32 - 1) / 32 = (tl xs l : Int) := by
  have hc := canon_trim hL
  have ht := trim_length xs
  rw [hl] at ht
  rw [← ht]
  generalize trim xs = X at *
  unfold bitsL
  by_cases h0 : X.length = 0
  · rw [if_pos h0, h0]; decide
  · rw [if_neg h0]
    have hb := lz_bd hc.1 (X.length - 1)
    have hnz : lz X (X.length - 1) ≠ 0 := hc.2 (by omega)
    have h1 := bitLen_spec (lz X (X.length - 1)).toNat (by omega)
    have h2 := bitLen_le32 (lz X (X.length - 1)).toNat (by omega)
    have h3 := (h1.2 (by omega)).1
    generalize Lib.bitLen (lz X (X.length - 1)).toNat = bl at *
    omega

set_option maxRecDepth 100000 in
set_option maxHeartbeats 1600000 in
theorem zlimbs_n {s : Bool} {a : Option Addr} {l c : Nat} {xs : List Int} {w : World} (h : Rd w a l c xs) (hl : l ≤ 1099511627776) :
    Calls Tryd.prog 30 #[.agg #[.bool s, .slice a l c]] w fun e w' => e = .returned (.int .i64 (tl xs l)) ∧ Below w.heap.size w w' := by
  have HL := hide (limbs_bits h.2.2.2.1 h.1)
  have htl := tl_le xs l
  go_enter Tryd.func30, Tryd.ntmps30
  go_wp2_with fail
  have x := zb_new w s a l c
  have b0 := below_alloc w (.cells #[.bool s, .slice a l c] 41)
  replace h := h.below b0
  generalize w.alloc (.cells #[.bool s, .slice a l c] 41) = wb at *
  have u1 := x.c1
  have u0 := x.c0
  go_wp2_with fail
  refine (bits_any h hl).mono ?_
  rintro e w1 ⟨rfl, rfl⟩
  have hb : ((bitsL (trim xs) : Nat) : Int) + 32 - 1 ≤ 32 * tl xs l + 31 := by have := HL.out; omega
  generalize hq : bitsL (trim xs) = q at *
  have HQ : Hid (((q : Int) + 32 - 1) / 32 = (tl xs l : Int)) := HL.out
  clear hq HL
  go_wp2_with fail
  go_ret
  exact ⟨ret_int HQ.out, b0⟩

set_option maxRecDepth 100000 in
set_option maxHeartbeats 1600000 in
theorem rlimbs_n {s : Bool} {a : Option Addr} {l c : Nat} {xs : List Int} {w : World} (h : Rd w a l c xs) (hl : l ≤ 1099511627776) :
    Calls Tryd.prog 33 #[.agg #[.bool s, .slice a l c]] w fun e w' => e = .returned (.int .i64 (tl xs l)) ∧ Below w.heap.size w w' := by
  have htl := tl_le xs l
  go_enter Tryd.func33, Tryd.ntmps33
  go_wp2_with fail
  have x := zb_new w s a l c
  have b0 := below_alloc w (.cells #[.bool s, .slice a l c] 41)
  replace h := h.below b0
  generalize w.alloc (.cells #[.bool s, .slice a l c] 41) = wb at *
  have u1 := x.c1
  have u0 := x.c0
  go_wp2_with fail
  refine (trim_any h (by omega)).mono ?_
  rintro e w1 ⟨rfl, ho, -⟩
  have k1 := ho.1
  go_wp2_with fail
  go_ret
  exact ⟨rfl, b0.trans (k1.mono b0.size)⟩
theorem ztext_size {w : World} {s : Bool} {a : Option Addr} {l c : Nat} {z : Int} (h : Zm w s a l c z) : (zText z).size ≤ 10 * (l + 1) + 1 := by
  obtain ⟨n, hn, rfl⟩ := h
  have hd := dec_bound hn
  have h0 := hn.nonneg
  by_cases hz : sg s n < 0
  · have hn' : -sg s n = n := by cases s <;> simp [sg] at hz ⊢; omega
    unfold zText
    rw [if_pos hz, hn', cons_data, size_list']
    simp only [List.length_cons]
    omega
  · have hn' : sg s n = n := by cases s <;> simp [sg] at hz ⊢; omega
    unfold zText
    rw [if_neg hz, hn', size_list']
    omega

theorem zparse_back {z : Int} {t : ByteArray} (ht : Hid (zText z = t)) (w : World) (hs : t.size ≤ 1099511627776) :
    Calls Tryd.prog 27 #[.string t] w fun e w' => ∃ s' ad len cap, e = .returned (.tuple #[.agg #[.bool s', .slice ad len cap], .int .i64 0]) ∧ Zn w' s' ad len cap z ∧ Below w.heap.size w w' ∧ len ≤ t.size := by
  obtain ⟨h1, h2, h3⟩ := back_good z
  rw [ht.out] at h2 h3
  refine (zparse_any t w hs).mono ?_
  rintro e w' ⟨s', ad, len, cap, rfl, hz, hb, hl⟩
  exact ⟨s', ad, len, cap, by rw [h2], h3 ▸ hz, hb, hl⟩
end Go.Proofs.YtndhjoofbkgkiaaDoor
