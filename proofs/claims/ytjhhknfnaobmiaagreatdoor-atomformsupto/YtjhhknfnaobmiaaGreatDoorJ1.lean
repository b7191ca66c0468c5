/-
  Several texts in one: W6, W7, W8.
-/
import Derived.Test.YtjhhknfnaobmiaaGreatDoorJ0
import Derived.Test.YtjhhknfnaobmiaaGreatDoorApp
namespace Go.Proofs.YtjhhknfnaobmiaaGreatDoor
open Go.RowKit

theorem ret_bool {a b : Bool} (h : a = b) : Ending.returned (.bool a) = .returned (.bool b) := by rw [h]

set_option maxRecDepth 100000 in
set_option maxHeartbeats 800000 in
theorem of_any (n : Int) (h0 : 0 ≤ n) (h1 : n < 18446744073709551616) (w : World) :
  Calls Tryz.prog 78 #[.int .u64 n] w fun e w' => ∃ ad len cap zs, e = .returned (.slice ad len cap) ∧ Out w w' ad len cap zs ∧ Canon zs ∧ val zs = n ∧ len ≤ 2 := by
 have hm := mask64 n h0 h1
 go_enter Tryz.func78, Tryz.ntmps78
 go_wp2_with fail
 have hrow : Row (w.alloc (.cells #[.int .u32 (n % 4294967296), .int .u32 (n / 4294967296)] 73)) w.heap.size [n % 4294967296, n / 4294967296] := row_alloc w [n % 4294967296, n / 4294967296]
 have hlim : Limbs [n % 4294967296, n / 4294967296] := by
  intro z hz
  simp only [List.mem_cons, List.not_mem_nil, or_false] at hz
  rcases hz with rfl | rfl <;> omega
 have hbel : Below w.heap.size w (w.alloc (.cells #[.int .u32 (n % 4294967296), .int .u32 (n / 4294967296)] 73)) := (Below.refl _ _).alloc (Nat.le_refl _) _
 have hval : Hid (val [n % 4294967296, n / 4294967296] = n) := by
  show _ = _
  simp only [val, vl, lz, pw, List.length_cons, List.length_nil]
  simp
  omega
 refine (bare_own (n := 2) hrow hlim rfl (by decide)).mono ?_
 rintro e w' ⟨rfl, rfl⟩
 obtain ⟨o1, o2, o3, o4⟩ := own_trim (n := 2) hbel hrow hlim rfl (by decide)
 clear hm
 go_wp2_with fail
 go_ret
 exact ⟨_, _, _, _, rfl, o1, o2, o3.trans (unhide hval), o4⟩

theorem run_append_nils (ty : TypeId) (c : Nat) (w : World) : (Builtin.append_ #[22, 22] ty #[.slice none 0 0, .slice none 0 c]).run Tryz.prog w = .ok (.slice none 0 0) w := by
 obtain ⟨i0, hi, hz0, hz1, hz2⟩ := info_parts info49a
 simp [Builtin.append_, run_underlying Tryz.underlying22, sizeOf, typeInfo, hi, Builtin.lenOf, Builtin.firstCells]

theorem out_none (w : World) : Out w w none 0 0 [] := ⟨Below.refl _ _, .inl ⟨rfl, rfl, rfl, rfl⟩⟩

/-- append of all of a slice that reads as limbs onto nil -/
theorem run_append_all {w : World} {ad : Option Addr} {n cap : Nat} {X : List Int} (h : Rd w ad n cap X) (hb : n ≤ 1099511627776) (ty : TypeId) :
  ∃ v' w', (Builtin.append_ #[22, 22] ty #[.slice none 0 0, .slice ad n cap]).run Tryz.prog w = .ok v' w' ∧ ∃ ad' cap', v' = .slice ad' n cap' ∧ Out w w' ad' n cap' X := by
 obtain ⟨h1, h2, h3, h4, h5⟩ := h
 have fin : ∀ a, ad = some a → (∀ j, j < n → w.cell? (a.add j) = some (.int .u32 (lz X j))) → ∃ v' w', (Builtin.append_ #[22, 22] ty #[.slice none 0 0, .slice ad n cap]).run Tryz.prog w = .ok v' w' ∧ ∃ ad' cap', v' = .slice ad' n cap' ∧ Out w w' ad' n cap' X := by
  rintro a rfl hc
  obtain ⟨v', w', hr, ad', cap', hv, ho, _⟩ := run_append_out (out_none w) ty a n cap X h1 h4 hc (by omega)
  rw [Nat.zero_add] at hv ho
  exact ⟨v', w', hr, ad', cap', hv, by simpa using ho⟩
 rcases h5 with ⟨rfl, rfl, rfl⟩ | ⟨a, rfl, rfl | ⟨b, off, rfl, _, hc⟩⟩
 ·obtain rfl : X = [] := List.eq_nil_of_length_eq_zero h1
  exact ⟨_, _, run_append_nils ty 0 w, none, 0, rfl, out_none w⟩
 ·exact fin a rfl (fun j hj => absurd hj (by omega))
 ·exact fin _ rfl (fun j hj => by rw [Addr.add_lit]; exact hc j hj)

set_option maxRecDepth 100000 in
set_option maxHeartbeats 800000 in
theorem fresh_any {a1 : Option Addr} {l1 c1 : Nat} {xs : List Int} {w : World} (h1 : Rd w a1 l1 c1 xs) (hl : l1 ≤ 1099511627776) :
  Calls Tryz.prog 150 #[.slice a1 l1 c1] w fun e w' => ∃ ad cap, e = .returned (.slice ad (tl xs l1) cap) ∧ Out w w' ad (tl xs l1) cap (trim xs) := by
 have t1 := h1.trim
 have hb := tl_le xs l1
 go_enter Tryz.func150, Tryz.ntmps150
 go_wp2_with fail
 refine (bare_any h1).mono ?_
 rintro e w' ⟨rfl, rfl⟩
 go_wp2_with (at_builtin; refine wpList_append_run rfl _ _ 22 rfl _ _ rfl rfl _ (run_append_all t1 (by omega) _) ?_; rintro v' w' ⟨ad', cap', rfl, ho⟩)
 go_ret
 exact ⟨_, _, rfl, ho⟩
end Go.Proofs.YtjhhknfnaobmiaaGreatDoor

namespace Go.Proofs.YtjhhknfnaobmiaaGreatDoor
open Go.RowKit

theorem or64 (x y : Int) (h0 : 0 ≤ x) (h1 : x < 4294967296) (h2 : 0 ≤ y) (h3 : y < 4294967296) : bits .or .u64 (x * 4294967296) y = x * 4294967296 + y := by
 obtain ⟨a, rfl⟩ := Int.eq_ofNat_of_zero_le h0
 obtain ⟨b, rfl⟩ := Int.eq_ofNat_of_zero_le h2
 have e1 : ((a : Int) * 4294967296) = ((a * 4294967296 : Nat) : Int) := by omega
 rw [e1, u64_or_nat _ _ (by omega) (by omega)]
 have e2 : a * 4294967296 ||| b = a * 4294967296 + b := by
  have := Nat.two_pow_add_eq_or_of_lt (i := 32) (b := b) (by omega) a
  rw [Nat.mul_comm a]
  exact this.symm
 rw [e2]
 omega

set_option maxRecDepth 100000 in
set_option maxHeartbeats 800000 in
theorem divl_nil (d : Int) (w : World) :
  Calls Tryz.prog 151 #[.slice none 0 0, .int .u32 d] w fun e w' => e = .returned (.int .u32 0) ∧ w = w' := by
 go_enter Tryz.func151, Tryz.ntmps151
 go_wp2
 refine wp_loop_rounds 1 ?_
 rw [rounds_succ]
 go_wp2
 go_ret
 exact ⟨rfl, rfl⟩

set_option maxRecDepth 100000 in
set_option maxHeartbeats 800000 in
theorem divl_row {w : World} {b : Nat} {zs : List Int} {len cap : Nat} {d : Int} (hr : Row w b zs) (hL : Limbs zs) (hlen : len ≤ zs.length) (hbig : len ≤ 1099511627776) (hd0 : 0 < d) (hd1 : d < 4294967296) :
  Calls Tryz.prog 151 #[.slice (some ⟨b, 0, none⟩) len cap, .int .u32 d] w fun e w' => ∃ zk, e = .returned (.int .u32 (vl zs len % d)) ∧ Row w' b zk ∧ Limbs zk ∧ zk.length = zs.length ∧ (∀ j, len ≤ j → lz zk j = lz zs j) ∧ vl zk len = vl zs len / d ∧ Only b w w' := by
 go_enter Tryz.func151, Tryz.ntmps151
 go_wp2
 go_loopw [5, 6] (fun l i wr => ∃ (k : Nat) (r : Int) (zk : List Int), k ≤ len ∧ i = .int .i64 ((k : Int) - 1) ∧ l = .int .u64 r ∧ 0 ≤ r ∧ r < d ∧ Row wr b zk ∧ Limbs zk ∧ zk.length = zs.length ∧ (∀ j, j < k ∨ len ≤ j → lz zk j = lz zs j) ∧ vl zs len - vl zs k = d * (vl zk len - vl zk k) + r * pw k ∧ Only b w wr) (fun _ i _ => (intOf i + 1).toNat)
 case atStart => exact ⟨len, 0, zs, Nat.le_refl _, rfl, rfl, by decide, hd0, hr, hL, rfl, fun _ _ => rfl, by simp, Only.refl _ _⟩
 case round =>
  obtain ⟨k, r, zk, hk, rfl, rfl, hr0, hr1, hrow, hzL, hzl, hsame, hv, honly⟩ := hrel
  have HV := hide hv
  have HS := hide hsame
  clear hv hsame
  cases k with
  | zero =>
   have hfin : Hid (vl zs len % d = r ∧ vl zk len = vl zs len / d) := by
    have h := unhide HV
    simp only [vl, pw, Int.sub_zero, Int.mul_one] at h
    rw [h]
    refine ⟨?_, ?_⟩
    ·rw [Int.add_comm, Int.add_mul_emod_self_left, Int.emod_eq_of_lt hr0 hr1]
    ·rw [Int.add_comm, Int.add_mul_ediv_left _ _ (by omega), Int.ediv_eq_zero_of_lt hr0 hr1, Int.zero_add]
   clear HV
   go_wp2
   go_ret
   exact ⟨zk, ret_int (unhide hfin).1.symm, hrow, hzL, hzl, fun j hj => (unhide HS) j (.inr hj), (unhide hfin).2, honly⟩
  | succ m =>
   have hcell := hrow.cell (i := m) (by omega)
   have hfr := hrow.frozen m
   have hB := lz_bd hzL m
   have ho := or64 r (lz zk m) hr0 (by omega) hB.1 hB.2
   have HM := hide ((unhide HS) m (.inl (by omega)))
   have hq : Hid (r * 4294967296 + lz zs m = d * ((r * 4294967296 + lz zk m) / d) + (r * 4294967296 + lz zk m) % d) := by
    show _ = _
    rw [← unhide HM]
    exact (Int.mul_ediv_add_emod _ _).symm
   have HD := hide (div_step (zs := zs) (zk := zk) (m := m) (len := len) (d := d) (r := r) (by omega) (by omega) (unhide HM) (unhide hq) (unhide HV))
   have q0 : 0 ≤ (r * 4294967296 + lz zk m) / d := Int.ediv_nonneg (by omega) (by omega)
   have q1 : (r * 4294967296 + lz zk m) / d < 4294967296 := by
    refine Int.ediv_lt_of_lt_mul hd0 ?_
    have : (r + 1) * 4294967296 ≤ d * 4294967296 := Int.mul_le_mul_of_nonneg_right (by omega) (by decide)
    rw [Int.mul_comm 4294967296 d]
    omega
   have r0 : 0 ≤ (r * 4294967296 + lz zk m) % d := Int.emod_nonneg _ (by omega)
   have r1 : (r * 4294967296 + lz zk m) % d < d := Int.emod_lt_of_pos _ hd0
   clear hq HV
   generalize hx : lz zk m = x at *
   clear hx
   go_wp2
   exact ⟨⟨m, _, _, by omega, rfl, rfl, r0, r1, hrow.set m _, hzL.set m q0 q1, by rw [List.length_set]; exact hzl, fun j hj => by rw [lz_set _ _ _ _ (by omega), if_neg (by omega)]; exact (unhide HS) j (by omega), unhide HD, honly.trans (Only.set b m wr _)⟩, by simp [intOf]⟩
end Go.Proofs.YtjhhknfnaobmiaaGreatDoor

namespace Go.Proofs.YtjhhknfnaobmiaaGreatDoor
open Go.RowKit

theorem tl_congr {xs ys : List Int} {n : Nat} (h : ∀ i, i < n → lz xs i = lz ys i) : tl xs n = tl ys n := by
 induction n with
 | zero => rfl
 | succ n ih => unfold tl; rw [h n (by omega), ih (fun i hi => h i (by omega))]

theorem canon_cut {zk : List Int} {n : Nat} (h : Limbs zk) (hn : n ≤ zk.length) : Canon (zk.take (tl zk n)) ∧ val (zk.take (tl zk n)) = vl zk n := by
 have hb := tl_le zk n
 refine ⟨⟨h.take _, fun hp => ?_⟩, by rw [val_take _ _ (by omega), vl_tl]⟩
 have hl : (zk.take (tl zk n)).length = tl zk n := by rw [List.length_take]; omega
 rw [hl] at hp ⊢
 rw [lz_take, if_pos (by omega)]
 exact tl_last hp

theorem trim_canon {zs : List Int} (h : Canon zs) : trim zs = zs := canon_inj (canon_trim h.1) h (val_trim zs)
theorem tl_canon {zs : List Int} {n : Nat} (h : Canon zs) (hn : zs.length = n) : tl zs n = n := by
 subst hn
 rw [← trim_length, trim_canon h]

theorem bare_cut {w : World} {b : Nat} {zk : List Int} {n cap : Nat} (h : Row w b zk) (hl : Limbs zk) (hn : n ≤ zk.length) (hc : n ≤ cap) (hm : cap ≤ 9223372036854775807) :
  Calls Tryz.prog 124 #[.slice (some ⟨b, 0, none⟩) n cap] w fun e w' => e = .returned (.slice (some ⟨b, 0, none⟩) (tl zk n) cap) ∧ w = w' := by
 have := h.rd hl (off := 0) (len := n) (cap := cap) (by omega) hc hm
 rw [List.drop_zero] at this
 have e : tl (zk.take n) n = tl zk n := tl_congr (fun i hi => by rw [lz_take, if_pos hi])
 have k := bare_any this
 rw [e] at k
 exact k

theorem Row.below {w w' : World} {b : Nat} {xs : List Int} (h : Row w b xs) (hb : Below w.heap.size w w') : Row w' b xs := by
 unfold Row; rw [hb.block b h.lt]; exact h

theorem Row.only {w w' : World} {b c : Nat} {xs : List Int} (h : Row w b xs) (hb : Only c w w') (hne : b ≠ c) : Row w' b xs := by
 unfold Row; rw [hb.block b hne]; exact h

/-- what came out stays behind later work in newer memory -/
theorem Out.later {w0 w w' : World} {ad : Option Addr} {len cap : Nat} {zs : List Int} (h : Out w0 w ad len cap zs) (hb : Below w.heap.size w w') : Out w0 w' ad len cap zs := by
 obtain ⟨h1, h2⟩ := h
 refine ⟨h1.trans (hb.mono h1.size), ?_⟩
 rcases h2 with h2 | ⟨b, xs, h3, h4, h5, h6⟩
 ·exact .inl h2
 ·exact .inr ⟨b, xs, h3, h4, h5.below hb, h6⟩

/-- an answer made later is an answer of the whole -/
theorem Out.outer {w0 w w' : World} {ad : Option Addr} {len cap : Nat} {zs : List Int} (h : Out w w' ad len cap zs) (hb : Below w0.heap.size w0 w) : Out w0 w' ad len cap zs := by
 obtain ⟨h1, h2⟩ := h
 refine ⟨hb.trans (h1.mono hb.size), ?_⟩
 rcases h2 with h2 | ⟨b, xs, h3, h4, h6⟩
 ·exact .inl h2
 ·exact .inr ⟨b, xs, h3, Nat.le_trans hb.size h4, h6⟩

set_option maxRecDepth 100000 in
set_option maxHeartbeats 800000 in
theorem divmod_less {a1 a2 : Option Addr} {l1 c1 l2 c2 : Nat} {xs ys : List Int} {w : World} (h1 : Rd w a1 l1 c1 xs) (h2 : Rd w a2 l2 c2 ys) (hl1 : l1 ≤ 1099511627776) (hlt : val xs < val ys) :
  Calls Tryz.prog 134 #[.slice a1 l1 c1, .slice a2 l2 c2] w fun e w' => ∃ ad cap, e = .returned (.tuple #[.slice none 0 0, .slice ad (tl xs l1) cap, .int .i64 0]) ∧ Out w w' ad (tl xs l1) cap (trim xs) := by
 have t1 := h1.trim
 have t2 := h2.trim
 have k1 := canon_trim h1.2.2.2.1
 have hnn := val_nonneg h1.2.2.2.1
 have e1 := val_trim xs
 have e2 := val_trim ys
 have hp : ((tl ys l2 : Int) == 0) = false := by
  rw [beq_eq_false_iff_ne]
  intro h
  have h0 : trim ys = [] := List.eq_nil_of_length_eq_zero (by have := trim_length ys; rw [h2.1] at this; omega)
  rw [h0] at e2
  have : val [] = 0 := rfl
  omega
 have hcmp : decide (cmpI (val (trim xs)) (val (trim ys)) < 0) = true := by
  rw [cmpI_lt (by omega)]; decide
 have hb := tl_le xs l1
 have htt : Hid (tl (trim xs) (tl xs l1) = tl xs l1) := tl_canon k1 t1.1
 have htr : Hid (trim (trim xs) = trim xs) := trim_canon k1
 clear e1 e2
 go_enter Tryz.func134, Tryz.ntmps134
 go_wp2_with fail
 refine (bare_any h1).mono ?_
 rintro e w' ⟨rfl, rfl⟩
 go_wp2_with fail
 refine (bare_any h2).mono ?_
 rintro e w' ⟨rfl, rfl⟩
 go_wp2_with fail
 refine (cmp_any t1 t2).mono ?_
 rintro e w' ⟨rfl, qd, rfl⟩
 have t3 := t1.below (below_drewN w.heap.size w qd)
 have hb2 := below_drewN w.heap.size w qd
 go_wp2_with fail
 refine (fresh_any t3 (by omega)).mono ?_
 rintro e w' ⟨ad, cap, rfl, ho⟩
 rw [unhide htt] at ho ⊢
 rw [unhide htr] at ho
 have HO := hide (ho.outer hb2)
 clear ho
 go_wp2_with fail
 go_ret3
 exact ⟨_, _, rfl, unhide HO⟩

set_option maxRecDepth 100000 in
set_option maxHeartbeats 1600000 in
theorem divmod_limb {a1 a2 : Option Addr} {l1 c1 l2 c2 : Nat} {xs ys : List Int} {w : World} (h1 : Rd w a1 l1 c1 xs) (h2 : Rd w a2 l2 c2 ys) (hl1 : l1 ≤ 1099511627776) (hge : val ys ≤ val xs) (hone : tl ys l2 = 1) :
  Calls Tryz.prog 134 #[.slice a1 l1 c1, .slice a2 l2 c2] w fun e w' => ∃ aq lq cq zq ar lr cr zr, e = .returned (.tuple #[.slice aq lq cq, .slice ar lr cr, .int .i64 0]) ∧ Out w w' aq lq cq zq ∧ Canon zq ∧ val zq = val xs / val ys ∧ Out w w' ar lr cr zr ∧ Canon zr ∧ val zr = val xs % val ys ∧ lq ≤ l1 ∧ lr ≤ 2 ∧ (aq = none ∨ blk aq ≠ blk ar) := by
 have t1 := h1.trim
 have t2 := h2.trim
 have k1 := canon_trim h1.2.2.2.1
 have k2 := canon_trim h2.2.2.2.1
 have e1 := val_trim xs
 have e2 := val_trim ys
 have L2 := trim_length ys
 rw [h2.1, hone] at L2
 rw [hone] at t2
 generalize hX : trim xs = X at *
 generalize hY : trim ys = Y at *
 clear hX hY
 have b1 := tl_le xs l1
 generalize hn1 : tl xs l1 = n1 at *
 have HN1 := hide hn1
 have HN2 := hide hone
 have E1 := hide e1
 have E2 := hide e2
 obtain ⟨b2, o2, rfl, g2⟩ := t2.some (by decide)
 have g20 := g2 0 (by decide)
 have hd := lz_bd k2.1 0
 have hdv : Hid (val Y = lz Y 0) := by
  show _ = _
  unfold val
  rw [L2]
  simp [vl, pw]
 have hdp : 0 < lz Y 0 := by
  have := k2.2 (by omega)
  rw [L2] at this
  simp only [Nat.sub_self] at this
  omega
 have hpos : 0 < n1 := by
  rcases Nat.eq_zero_or_pos n1 with h | h
  ·subst h
   have : X = [] := List.eq_nil_of_length_eq_zero t1.1
   subst this
   have h3 : val [] = 0 := rfl
   have := unhide hdv
   omega
  ·exact h
 have hcmp : decide (cmpI (val X) (val Y) < 0) = false := by
  unfold cmpI
  rw [if_neg (by omega)]
  split <;> decide
 have htt := hide (tl_canon k1 t1.1)
 have htr := hide (trim_canon k1)
 clear hn1 hone e1 e2 g2 L2
 go_enter Tryz.func134, Tryz.ntmps134
 go_wp2_with fail
 refine (bare_any h1).mono ?_
 rintro e w' ⟨rfl, rfl⟩
 rw [unhide HN1]
 go_wp2_with fail
 refine (bare_any h2).mono ?_
 rintro e w' ⟨rfl, rfl⟩
 rw [unhide HN2]
 go_wp2_with fail
 refine (cmp_any t1 t2).mono ?_
 rintro e w' ⟨rfl, qd, rfl⟩
 have t3 := t1.below (below_drewN w.heap.size w qd)
 go_wp2_with fail
 refine (fresh_any t3 (by omega)).mono ?_
 rintro e w1 ⟨ad, cap, rfl, ho⟩
 rw [unhide htt] at ho ⊢
 rw [unhide htr] at ho
 obtain ⟨hB, ⟨_, h0, _⟩ | ⟨bq, zq, rfl, hbq, hrq, hlq, hzql, hle, hmx, hzX⟩⟩ := ho
 ·omega
 have HX := hide hzX
 have hB0 : Below w.heap.size w w1 := (below_drewN w.heap.size w qd).trans hB
 have g21 : w1.cell? ⟨b2, o2, none⟩ = some (.int .u32 (lz Y 0)) := by
  obtain ⟨_, _, _, _, ⟨h, _⟩ | ⟨a, ha, h | ⟨b, off, rfl, hlt, _⟩⟩⟩ := t2
  ·cases h
  ·omega
  ·simp only [Option.some.injEq, Addr.mk.injEq, and_true] at ha
   obtain ⟨rfl, rfl⟩ := ha
   exact (hB0.cell (p := ⟨b2, o2, none⟩) hlt).trans (by simpa using g20)
 clear hzX g20
 go_wp2_with fail
 refine (divl_row (len := n1) (cap := cap) hrq hlq (by omega) (by omega) hdp hd.2).mono ?_
 rintro e w2 ⟨zk, rfl, hrk, hlk, hzkl, hsame, hvk, honly⟩
 have hB2 : Below w.heap.size w w2 := hB0.trans (honly.below (by simpa using hbq))
 have hvX : Hid (vl zq n1 = val xs) := by
  show _ = _
  rw [← val_take zq n1 (by omega), ← unhide HX, unhide E1]
 have HVK := hide hvk
 clear hvk hsame
 go_wp2_with fail
 refine (bare_cut hrk hlk (by omega) hle hmx).mono ?_
 rintro e w3 ⟨rfl, rfl⟩
 have hrem : 0 ≤ vl zq n1 % lz Y 0 ∧ vl zq n1 % lz Y 0 < lz Y 0 := ⟨Int.emod_nonneg _ (by omega), Int.emod_lt_of_pos _ hdp⟩
 go_wp2_with fail
 refine (of_any (vl zq n1 % lz Y 0) hrem.1 (by omega) w2).mono ?_
 rintro e w3 ⟨ar, lr, cr, zr, rfl, hor, hcr, hvr, hlr⟩
 obtain ⟨cq1, cq2⟩ := canon_cut (n := n1) hlk (by omega)
 have hq : Out w w2 (some ⟨bq, 0, none⟩) (tl zk n1) cap (zk.take (tl zk n1)) := ⟨hB2, .inr ⟨bq, zk, rfl, by simpa using hbq, hrk, hlk, by omega, by have := tl_le zk n1; omega, hmx, rfl⟩⟩
 have HQ := hide (hq.later hor.1)
 have HR := hide (hor.outer hB2)
 have hblk : Hid (blk (some (⟨bq, 0, none⟩ : Addr)) ≠ blk ar) := by
  obtain ⟨_, ⟨rfl, _⟩ | ⟨br, _, rfl, hbr, _⟩⟩ := hor
  ·intro h; cases h
  ·intro h
   simp only [blk, Option.some.injEq] at h
   have := hrk.lt
   omega
 have HVR := hide hvr
 have HC := hide (And.intro cq1 cq2)
 have hlq' := tl_le zk n1
 clear hq hor cq1 cq2 hvr
 go_wp2_with fail
 go_ret3
 refine ⟨_, _, _, _, _, _, _, _, rfl, unhide HQ, (unhide HC).1, ?_, unhide HR, hcr, ?_, by omega, hlr, .inr (unhide hblk)⟩
 ·rw [(unhide HC).2, unhide HVK, unhide hvX, ← unhide hdv, unhide E2]
 ·rw [unhide HVR, unhide hvX, ← unhide hdv, unhide E2]
end Go.Proofs.YtjhhknfnaobmiaaGreatDoor
