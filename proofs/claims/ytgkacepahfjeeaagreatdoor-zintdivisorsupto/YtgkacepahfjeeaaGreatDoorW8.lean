/-
  Walks: DivMod by 0, by a greater number, by one limb.
-/
import Derived.Test.YtgkacepahfjeeaaGreatDoorW7
namespace Go.Proofs.YtgkacepahfjeeaaGreatDoor
open Go.RowKit

theorem tl_congr {xs ys : List Int} {n : Nat} (h : ∀ i, i < n → lz xs i = lz ys i) : tl xs n = tl ys n := by
  induction n with
  | zero => rfl
  | succ n ih => unfold tl; rw [h n (by omega), ih (fun i hi => h i (by omega))]

theorem canon_cut {zk : List Int} {n : Nat} (h : Limbs zk) (hn : n ≤ zk.length) : Canon (zk.take (tl zk n)) ∧ val (zk.take (tl zk n)) = vl zk n := by
  have hb := tl_le zk n
  refine ⟨⟨h.take _, fun hp => ?_⟩, by rw [val_take _ _ (by omega), vl_tl]⟩
  have hl : (zk.take (tl zk n)).length = tl zk n := by rw [List.length_take]; omega
  rw [hl] at hp ⊢
  rw [lz_take, if_pos (by omega)]
  exact tl_last hp

theorem trim_canon {zs : List Int} (h : Canon zs) : trim zs = zs := canon_inj (canon_trim h.1) h (val_trim zs)
theorem tl_canon {zs : List Int} {n : Nat} (h : Canon zs) (hn : zs.length = n) : tl zs n = n := by
  subst hn
  rw [← trim_length, trim_canon h]

theorem bare_cut {w : World} {b : Nat} {zk : List Int} {n cap : Nat} (h : Row w b zk) (hl : Limbs zk) (hn : n ≤ zk.length) (hc : n ≤ cap) (hm : cap ≤ 9223372036854775807) :
    Calls Tryz.prog 50 #[.slice (some ⟨b, 0, none⟩) n cap] w fun e w' => e = .returned (.slice (some ⟨b, 0, none⟩) (tl zk n) cap) ∧ w = w' := by
  have := h.rd hl (off := 0) (len := n) (cap := cap) (by omega) hc hm
  rw [List.drop_zero] at this
  have e : tl (zk.take n) n = tl zk n := tl_congr (fun i hi => by rw [lz_take, if_pos hi])
  have k := bare_any this
  rw [e] at k
  exact k

theorem Row.below {w w' : World} {b : Nat} {xs : List Int} (h : Row w b xs) (hb : Below w.heap.size w w') : Row w' b xs := by
  unfold Row; rw [hb.block b h.lt]; exact h

theorem Row.only {w w' : World} {b c : Nat} {xs : List Int} (h : Row w b xs) (hb : Only c w w') (hne : b ≠ c) : Row w' b xs := by
  unfold Row; rw [hb.block b hne]; exact h

/-- what came out stays behind later work in newer memory -/
theorem Out.later {w0 w w' : World} {ad : Option Addr} {len cap : Nat} {zs : List Int} (h : Out w0 w ad len cap zs) (hb : Below w.heap.size w w') : Out w0 w' ad len cap zs := by
  obtain ⟨h1, h2⟩ := h
  refine ⟨h1.trans (hb.mono h1.size), ?_⟩
  rcases h2 with h2 | ⟨b, xs, h3, h4, h5, h6⟩
  · exact .inl h2
  · exact .inr ⟨b, xs, h3, h4, h5.below hb, h6⟩

/-- an answer made later is an answer of the whole -/
theorem Out.outer {w0 w w' : World} {ad : Option Addr} {len cap : Nat} {zs : List Int} (h : Out w w' ad len cap zs) (hb : Below w0.heap.size w0 w) : Out w0 w' ad len cap zs := by
  obtain ⟨h1, h2⟩ := h
  refine ⟨hb.trans (h1.mono hb.size), ?_⟩
  rcases h2 with h2 | ⟨b, xs, h3, h4, h6⟩
  · exact .inl h2
  · exact .inr ⟨b, xs, h3, Nat.le_trans hb.size h4, h6⟩

set_option maxRecDepth 100000 in
set_option maxHeartbeats 800000 in
theorem divmod_zero {a1 a2 : Option Addr} {l1 c1 l2 c2 : Nat} {xs ys : List Int} {w : World} (h1 : Rd w a1 l1 c1 xs) (h2 : Rd w a2 l2 c2 ys) (hz : val ys = 0) :
    Calls Tryz.prog 43 #[.slice a1 l1 c1, .slice a2 l2 c2] w fun e w' => e = .returned (.tuple #[.slice none 0 0, .slice none 0 0, .int .i64 11]) ∧ w = w' := by
  have hn : trim ys = [] := (canon_zero (canon_trim h2.2.2.2.1)).1 (by rw [val_trim]; exact hz)
  have hn2 : tl ys l2 = 0 := by have := trim_length ys; rw [hn, h2.1] at this; exact this.symm
  have HN := hide hn2
  clear hn hn2 hz
  go_enter Tryz.func43, Tryz.ntmps43
  go_wp2_with fail
  refine (bare_any h1).mono ?_
  rintro e w' ⟨rfl, rfl⟩
  go_wp2_with fail
  refine (bare_any h2).mono ?_
  rintro e w' ⟨rfl, rfl⟩
  rw [unhide HN]
  go_wp2_with fail
  go_ret3
  exact ⟨rfl, rfl⟩

set_option maxRecDepth 100000 in
set_option maxHeartbeats 800000 in
theorem divmod_less {a1 a2 : Option Addr} {l1 c1 l2 c2 : Nat} {xs ys : List Int} {w : World} (h1 : Rd w a1 l1 c1 xs) (h2 : Rd w a2 l2 c2 ys) (hl1 : l1 ≤ 1099511627776) (hlt : val xs < val ys) :
    Calls Tryz.prog 43 #[.slice a1 l1 c1, .slice a2 l2 c2] w fun e w' => ∃ ad cap, e = .returned (.tuple #[.slice none 0 0, .slice ad (tl xs l1) cap, .int .i64 0]) ∧ Out w w' ad (tl xs l1) cap (trim xs) := by
  have t1 := h1.trim
  have t2 := h2.trim
  have k1 := canon_trim h1.2.2.2.1
  have hnn := val_nonneg h1.2.2.2.1
  have e1 := val_trim xs
  have e2 := val_trim ys
  have hp : ((tl ys l2 : Int) == 0) = false := by
    rw [beq_eq_false_iff_ne]
    intro h
    have h0 : trim ys = [] := List.eq_nil_of_length_eq_zero (by have := trim_length ys; rw [h2.1] at this; omega)
    rw [h0] at e2
    have : val [] = 0 := rfl
    omega
  have hcmp : decide (cmpI (val (trim xs)) (val (trim ys)) < 0) = true := by
    rw [cmpI_lt (by omega)]; decide
  have hb := tl_le xs l1
  have htt : Hid (tl (trim xs) (tl xs l1) = tl xs l1) := tl_canon k1 t1.1
  have htr : Hid (trim (trim xs) = trim xs) := trim_canon k1
  clear e1 e2
  go_enter Tryz.func43, Tryz.ntmps43
  go_wp2_with fail
  refine (bare_any h1).mono ?_
  rintro e w' ⟨rfl, rfl⟩
  go_wp2_with fail
  refine (bare_any h2).mono ?_
  rintro e w' ⟨rfl, rfl⟩
  go_wp2_with fail
  refine (cmp_any t1 t2).mono ?_
  rintro e w' ⟨rfl, qd, rfl⟩
  have t3 := t1.below (below_drewN w.heap.size w qd)
  have hb2 := below_drewN w.heap.size w qd
  go_wp2_with fail
  refine (fresh_any t3 (by omega)).mono ?_
  rintro e w' ⟨ad, cap, rfl, ho⟩
  rw [unhide htt] at ho ⊢
  rw [unhide htr] at ho
  have HO := hide (ho.outer hb2)
  clear ho
  go_wp2_with fail
  go_ret3
  exact ⟨_, _, rfl, unhide HO⟩

set_option maxRecDepth 100000 in
set_option maxHeartbeats 1600000 in
theorem divmod_limb {a1 a2 : Option Addr} {l1 c1 l2 c2 : Nat} {xs ys : List Int} {w : World} (h1 : Rd w a1 l1 c1 xs) (h2 : Rd w a2 l2 c2 ys) (hl1 : l1 ≤ 1099511627776) (hge : val ys ≤ val xs) (hone : tl ys l2 = 1) :
    Calls Tryz.prog 43 #[.slice a1 l1 c1, .slice a2 l2 c2] w fun e w' => ∃ aq lq cq zq ar lr cr zr, e = .returned (.tuple #[.slice aq lq cq, .slice ar lr cr, .int .i64 0]) ∧ Out w w' aq lq cq zq ∧ Canon zq ∧ val zq = val xs / val ys ∧ Out w w' ar lr cr zr ∧ Canon zr ∧ val zr = val xs % val ys ∧ lq ≤ l1 ∧ lr ≤ 2 ∧ (aq = none ∨ blk aq ≠ blk ar) := by
  have t1 := h1.trim
  have t2 := h2.trim
  have k1 := canon_trim h1.2.2.2.1
  have k2 := canon_trim h2.2.2.2.1
  have e1 := val_trim xs
  have e2 := val_trim ys
  have L2 := trim_length ys
  rw [h2.1, hone] at L2
  rw [hone] at t2
  generalize hX : trim xs = X at *
  generalize hY : trim ys = Y at *
  clear hX hY
  have b1 := tl_le xs l1
  generalize hn1 : tl xs l1 = n1 at *
  have HN1 := hide hn1
  have HN2 := hide hone
  have E1 := hide e1
  have E2 := hide e2
  obtain ⟨b2, o2, rfl, g2⟩ := t2.some (by decide)
  have g20 := g2 0 (by decide)
  have hd := lz_bd k2.1 0
  have hdv : Hid (val Y = lz Y 0) := by
    show _ = _
    unfold val
    rw [L2]
    simp [vl, pw]
  have hdp : 0 < lz Y 0 := by
    have := k2.2 (by omega)
    rw [L2] at this
    simp only [Nat.sub_self] at this
    omega
  have hpos : 0 < n1 := by
    rcases Nat.eq_zero_or_pos n1 with h | h
    · subst h
      have : X = [] := List.eq_nil_of_length_eq_zero t1.1
      subst this
      have h3 : val [] = 0 := rfl
      have := unhide hdv
      omega
    · exact h
  have hcmp : decide (cmpI (val X) (val Y) < 0) = false := by
    unfold cmpI
    rw [if_neg (by omega)]
    split <;> decide
  have htt := hide (tl_canon k1 t1.1)
  have htr := hide (trim_canon k1)
  clear hn1 hone e1 e2 g2 L2
  go_enter Tryz.func43, Tryz.ntmps43
  go_wp2_with fail
  refine (bare_any h1).mono ?_
  rintro e w' ⟨rfl, rfl⟩
  rw [unhide HN1]
  go_wp2_with fail
  refine (bare_any h2).mono ?_
  rintro e w' ⟨rfl, rfl⟩
  rw [unhide HN2]
  go_wp2_with fail
  refine (cmp_any t1 t2).mono ?_
  rintro e w' ⟨rfl, qd, rfl⟩
  have t3 := t1.below (below_drewN w.heap.size w qd)
  go_wp2_with fail
  refine (fresh_any t3 (by omega)).mono ?_
  rintro e w1 ⟨ad, cap, rfl, ho⟩
  rw [unhide htt] at ho ⊢
  rw [unhide htr] at ho
  obtain ⟨hB, ⟨_, h0, _⟩ | ⟨bq, zq, rfl, hbq, hrq, hlq, hzql, hle, hmx, hzX⟩⟩ := ho
  · omega
  have HX := hide hzX
  have hB0 : Below w.heap.size w w1 := (below_drewN w.heap.size w qd).trans hB
  have g21 : w1.cell? ⟨b2, o2, none⟩ = some (.int .u32 (lz Y 0)) := by
    obtain ⟨_, _, _, _, ⟨h, _⟩ | ⟨a, ha, h | ⟨b, off, rfl, hlt, _⟩⟩⟩ := t2
    · cases h
    · omega
    · simp only [Option.some.injEq, Addr.mk.injEq, and_true] at ha
      obtain ⟨rfl, rfl⟩ := ha
      exact (hB0.cell (p := ⟨b2, o2, none⟩) hlt).trans (by simpa using g20)
  clear hzX g20
  go_wp2_with fail
  refine (divl_row (len := n1) (cap := cap) hrq hlq (by omega) (by omega) hdp hd.2).mono ?_
  rintro e w2 ⟨zk, rfl, hrk, hlk, hzkl, hsame, hvk, honly⟩
  have hB2 : Below w.heap.size w w2 := hB0.trans (honly.below (by simpa using hbq))
  have hvX : Hid (vl zq n1 = val xs) := by
    show _ = _
    rw [← val_take zq n1 (by omega), ← unhide HX, unhide E1]
  have HVK := hide hvk
  clear hvk hsame
  go_wp2_with fail
  refine (bare_cut hrk hlk (by omega) hle hmx).mono ?_
  rintro e w3 ⟨rfl, rfl⟩
  have hrem : 0 ≤ vl zq n1 % lz Y 0 ∧ vl zq n1 % lz Y 0 < lz Y 0 := ⟨Int.emod_nonneg _ (by omega), Int.emod_lt_of_pos _ hdp⟩
  go_wp2_with fail
  refine (of_any (vl zq n1 % lz Y 0) hrem.1 (by omega) w2).mono ?_
  rintro e w3 ⟨ar, lr, cr, zr, rfl, hor, hcr, hvr, hlr⟩
  obtain ⟨cq1, cq2⟩ := canon_cut (n := n1) hlk (by omega)
  have hq : Out w w2 (some ⟨bq, 0, none⟩) (tl zk n1) cap (zk.take (tl zk n1)) := ⟨hB2, .inr ⟨bq, zk, rfl, by simpa using hbq, hrk, hlk, by omega, by have := tl_le zk n1; omega, hmx, rfl⟩⟩
  have HQ := hide (hq.later hor.1)
  have HR := hide (hor.outer hB2)
  have hblk : Hid (blk (some (⟨bq, 0, none⟩ : Addr)) ≠ blk ar) := by
    obtain ⟨_, ⟨rfl, _⟩ | ⟨br, _, rfl, hbr, _⟩⟩ := hor
    · intro h; cases h
    · intro h
      simp only [blk, Option.some.injEq] at h
      have := hrk.lt
      omega
  have HVR := hide hvr
  have HC := hide (And.intro cq1 cq2)
  have hlq' := tl_le zk n1
  clear hq hor cq1 cq2 hvr
  go_wp2_with fail
  go_ret3
  refine ⟨_, _, _, _, _, _, _, _, rfl, unhide HQ, (unhide HC).1, ?_, unhide HR, hcr, ?_, by omega, hlr, .inr (unhide hblk)⟩
  · rw [(unhide HC).2, unhide HVK, unhide hvX, ← unhide hdv, unhide E2]
  · rw [unhide HVR, unhide hvX, ← unhide hdv, unhide E2]
end Go.Proofs.YtgkacepahfjeeaaGreatDoor
