/-
 Several texts in one: R1, R3, R5, R8.
-/
import Derived.Test.YtcgdhbgjmapoeaaDoorP05
import Derived.Laws.CopyOwn
namespace Go.Proofs.YtcgdhbgjmapoeaaDoor
open Go.RowKit

theorem size49 : (Tryd.prog.info? 55).map (·.size) = some 1 := by kernel_rfl

/-- copy of a slice of limbs onto the head of a row of the call's own -/
theorem run_copy_rd {w : World} {g dLen dCap n cap : Nat} {ad : Option Addr} {cur X : List Int} (hg : Row w g cur) (hX : Rd w ad n cap X) (hd : dLen ≤ cur.length) (ty : TypeId) :
  ∃ v' w', (Builtin.copy_ #[40, 40] ty #[.slice (some ⟨g, 0, none⟩) dLen dCap, .slice ad n cap]).run Tryd.prog w = .ok v' w' ∧ (∃ k : Nat, v' = goInt k) ∧ Row w' g (X.take (min n dLen) ++ cur.drop (min n dLen)) ∧ Only g w w' := by
 obtain ⟨h1, h2, h3, h4, h5⟩ := hX
 have fin : ∀ a, ad = some a → (∀ j, j < n → w.cell? (a.add j) = some (.int .u32 (lz X j))) → ∃ v' w', (Builtin.copy_ #[40, 40] ty #[.slice (some ⟨g, 0, none⟩) dLen dCap, .slice ad n cap]).run Tryd.prog w = .ok v' w' ∧ (∃ k : Nat, v' = goInt k) ∧ Row w' g (X.take (min n dLen) ++ cur.drop (min n dLen)) ∧ Only g w w' := by
  rintro a rfl hc
  have hlen : ((X.take (min n dLen)).map (Value.int .u32)).length = Nat.min n dLen := by
   rw [List.length_map, List.length_take]; show min (min n dLen) X.length = min n dLen; omega
  have hr := run_copy_row (P := Tryd.prog) w 40 40 ty 55 g 0 dLen dCap a n cap (U cur) 55 ((X.take (min n dLen)).map (Value.int .u32)) Tryd.underlying40 size49 hg hlen
   (fun j v hv => by
    obtain ⟨q1, rfl⟩ := lz_map hv
    rw [List.length_take] at q1
    rw [lz_take, if_pos (by omega)]
    exact hc j (by omega))
   (by rw [U_size, hlen]; show 0 + min n dLen ≤ _; omega)
   (fun u hu => by obtain ⟨z, _, rfl⟩ := List.mem_map.1 hu; rfl)
  refine ⟨_, _, hr, ⟨_, rfl⟩, ?_, ⟨rfl, rfl, rfl, by simp, fun k hk => setRow_other w g k _ hk⟩⟩
  have := setRow_heap w g (U cur) ((U cur).toList.take 0 ++ (X.take (min n dLen)).map (Value.int .u32) ++ (U cur).toList.drop (0 + ((X.take (min n dLen)).map (Value.int .u32)).length)).toArray 55 (0, 0) hg
  rw [Row, this, hlen]
  have hmm : Nat.min n dLen = min n dLen := rfl
  simp [U, List.map_take, List.map_drop, hmm]
 rcases h5 with ⟨rfl, rfl, rfl⟩ | ⟨a, rfl, rfl | ⟨b, off, rfl, _, hc⟩⟩
 ·refine ⟨_, _, run_copy_nil (P := Tryd.prog) w 40 40 ty 55 ⟨g, 0, none⟩ dLen dCap Tryd.underlying40 (by rw [size49]; rfl), ⟨0, rfl⟩, ?_, Only.refl _ _⟩
  simpa using hg
 ·exact fin a rfl (fun j hj => absurd hj (by omega))
 ·exact fin _ rfl (fun j hj => by rw [Addr.add_lit]; exact hc j hj)

theorem trim_fin {w w' : World} {xs : List Int} {len m : Nat} (hxl : xs.length = len) (hl : Limbs xs) (hm : tl xs len = m) (hb : len ≤ 35184372088832)
  (hr : Row w' w.heap.size (xs.take (min len m) ++ (List.replicate m (0 : Int)).drop (min len m))) (ho : Only w.heap.size (w.alloc (.cells (U (List.replicate m 0)) 55)) w') :
  Ending.returned (.slice (some ⟨w.heap.size, 0, none⟩) m m) = .returned (.slice (some ⟨w.heap.size, 0, none⟩) (tl xs len) (tl xs len)) ∧ Out w w' (some ⟨w.heap.size, 0, none⟩) (tl xs len) (tl xs len) (trim xs) ∧ w'.heap.size = w.heap.size + 1 := by
 have hb1 := tl_le xs len
 subst hm
 rw [Nat.min_eq_right hb1, List.drop_eq_nil_of_le (by simp), List.append_nil] at hr
 have e : trim xs = (xs.take (tl xs len)).take (tl xs len) := by unfold trim; rw [hxl, List.take_take, Nat.min_self]
 refine ⟨rfl, ?_, by rw [ho.size]; simp⟩
 rw [e]
 exact out_row ((below_alloc w _).trans (ho.below (Nat.le_refl _))) hr (hl.take _) (by rw [List.length_take]; omega) (Nat.le_refl _) (by omega)

theorem rd_alloc {w : World} {ad : Option Addr} {len cap : Nat} {zs : List Int} (h : Rd w ad len cap zs) (o : Obj) : Rd (w.alloc o) ad len cap zs := h.below (below_alloc w o)

set_option maxRecDepth 100000 in
set_option maxHeartbeats 1600000 in
/-- Trim: the limbs without the noughts at the end, in new memory -/
theorem trim_any {ad : Option Addr} {len cap : Nat} {xs : List Int} {w : World} (h : Rd w ad len cap xs) (hl : len ≤ 35184372088832) :
  Calls Tryd.prog 45 #[.slice ad len cap] w fun e w' => e = .returned (.slice (some ⟨w.heap.size, 0, none⟩) (tl xs len) (tl xs len)) ∧ Out w w' (some ⟨w.heap.size, 0, none⟩) (tl xs len) (tl xs len) (trim xs) ∧ w'.heap.size = w.heap.size + 1 := by
 have hxl := h.1
 have hlim := h.2.2.2.1
 have hmk0 := run_mk 0 (by decide)
 rw [show ((0 : Nat) : Int) = 0 from rfl] at hmk0
 have h0 := rd_alloc h (.cells (U (List.replicate 0 0)) 55)
 by_cases hlz : len = 0
 ·subst hlz
  go_enter Tryd.func45, Tryd.ntmps45
  go_wp2
  refine wp_loop_rounds 1 ?_
  rw [rounds_succ]
  obtain ⟨v', w', hrun, ⟨kk, rfl⟩, hr, ho⟩ := run_copy_rd (dLen := 0) (dCap := 0) (row_alloc w _) h0 (Nat.zero_le _) 3
  rw [show U (List.replicate 0 (0 : Int)) = U [] from rfl] at hrun
  go_wp2
  go_ret
  exact trim_fin hxl hlim rfl hl hr ho
 ·obtain ⟨b, off, rfl, g⟩ := h.some (by omega)
  go_enter Tryd.func45, Tryd.ntmps45
  go_wp2
  go_loop [3] (fun n => ∃ k : Nat, k ≤ len ∧ n = .int .i64 k ∧ Hid (tl xs len = tl xs k)) (fun n => (intOf n).toNat)
  case atStart => exact ⟨len, Nat.le_refl _, rfl, rfl⟩
  case round =>
   obtain ⟨k, hk, rfl, HT⟩ := hrel
   cases k with
   | zero =>
    obtain ⟨v', w', hrun, ⟨kk, rfl⟩, hr, ho⟩ := run_copy_rd (dLen := 0) (dCap := 0) (row_alloc w _) h0 (Nat.zero_le _) 3
    rw [show U (List.replicate 0 (0 : Int)) = U [] from rfl] at hrun
    go_wp2
    go_ret
    exact trim_fin hxl hlim HT.out hl hr ho
   | succ m =>
    have hcm := g m (by omega)
    by_cases hz0 : lz xs m = 0
    ·have HZ : Hid (lz xs m = 0) := hz0
     have hz1 : (lz xs m == 0) = true := by simp [hz0]
     clear hz0
     go_wp2
     go_round
     case rel => exact ⟨m, by omega, by go_num, by show _ = _; rw [HT.out]; conv => lhs; rw [tl, if_pos HZ.out]⟩
     case measure => simp [intOf]
    ·have HZ : Hid (¬ lz xs m = 0) := hz0
     have hz1 : (lz xs m == 0) = false := by simp [hz0]
     have hm1 : Hid (tl xs len = m + 1) := by show _ = _; rw [HT.out, tl, if_neg HZ.out]
     have hmk := run_mk' m (by omega)
     have h1 := rd_alloc h (.cells (U (List.replicate (m + 1) 0)) 55)
     clear hz0
     obtain ⟨v', w', hrun, ⟨kk, rfl⟩, hr, ho⟩ := run_copy_rd (dLen := m + 1) (dCap := m + 1) (row_alloc w (List.replicate (m + 1) 0)) h1 (by rw [List.length_replicate]; exact Nat.le_refl _) 3
     go_wp2
     go_ret
     exact trim_fin hxl hlim hm1.out hl hr ho
end Go.Proofs.YtcgdhbgjmapoeaaDoor

namespace Go.Proofs.YtcgdhbgjmapoeaaDoor
open Go.RowKit

theorem snoc_step {zs : List Int} {k : Nat} {cr s T : Int} (hk : zs.length = k) (h : val zs + cr * pw k = T) :
  val (zs ++ [(s + cr) % 4294967296]) + ((s + cr) / 4294967296) * pw (k + 1) = T + s * pw k := by
 rw [val_snoc, hk, pw_succ]
 have e : (s + cr) % 4294967296 + 4294967296 * ((s + cr) / 4294967296) = s + cr := Int.emod_add_mul_ediv _ _
 have e2 : (s + cr) / 4294967296 * (4294967296 * pw k) = (4294967296 * ((s + cr) / 4294967296)) * pw k := by
  rw [← Int.mul_assoc, Int.mul_comm ((s + cr) / 4294967296)]
 rw [e2, Int.add_assoc, ← Int.add_mul, e, Int.add_mul]
 omega

theorem out_nil (w : World) : Out w w none 0 0 [] := ⟨Below.refl _ _, .inl ⟨rfl, rfl, rfl, rfl⟩⟩

end Go.Proofs.YtcgdhbgjmapoeaaDoor

namespace Go.Proofs.YtcgdhbgjmapoeaaDoor
open Go.RowKit

set_option maxRecDepth 100000 in
set_option maxHeartbeats 1600000 in
theorem reftimes_any {a1 : Option Addr} {l1 c1 : Nat} {xs : List Int} {w : World} {n m : Int} (h1 : Rd w a1 l1 c1 xs) (hl1 : l1 ≤ 1099511627776) (hn0 : 0 ≤ n) (hn1 : n < 4294967296) (hm0 : 0 ≤ m) (hm1 : m < 4294967296) :
  Calls Tryd.prog 42 #[.slice a1 l1 c1, .int .u32 n, .int .u32 m] w fun e w' => ∃ ad len cap zs, e = .returned (.slice ad len cap) ∧ Out w w' ad len cap zs ∧ Canon zs ∧ val zs = val xs * n + m ∧ len ≤ l1 + 1 := by
 have L1 : Hid (xs.length = l1) := h1.1
 go_enter Tryd.func42, Tryd.ntmps42
 go_wp2_with fail
 go_loopw [7, 8, 9] (fun o c i wr => ∃ (k : Nat) (cr : Int) (ad : Option Addr) (cap : Nat) (zs : List Int), k ≤ l1 ∧ i = .int .i64 k ∧ c = .int .u64 cr ∧ o = .slice ad k cap ∧ 0 ≤ cr ∧ cr < 4294967296 ∧ Out w wr ad k cap zs ∧ Hid (val zs + cr * pw k = vl xs k * n + m)) (fun _ _ i _ => l1 - (intOf i).toNat)
 case atStart => exact ⟨0, m, none, 0, [], Nat.zero_le _, rfl, rfl, rfl, by omega, by omega, out_nil w, by show _ = _; simp [val, vl, pw]⟩
 case round =>
  obtain ⟨k, cr, ad, cap, zs, hk, rfl, rfl, rfl, hc0, hc1, hO, HV⟩ := hrel
  by_cases hkN : k < l1
  ·have q1 := h1.below hO.1
   have B1 := lz_bd h1.2.2.2.1 k
   have hmb := mul_bd B1.1 B1.2 hn0 hn1
   have HS : Hid (val (zs ++ [(lz xs k * n + cr) % 4294967296]) + ((lz xs k * n + cr) / 4294967296) * pw (k + 1) = vl xs (k + 1) * n + m) := by
    have := snoc_step (s := lz xs k * n) hO.rd.1 HV.out
    show _ = _
    rw [this, vl_succ, Int.add_mul, Int.mul_right_comm (lz xs k) (pw k) n]
    omega
   obtain ⟨_, _, _, _, h5⟩ := q1
   rcases h5 with ⟨_, h6, _⟩ | ⟨a, rfl, h6 | ⟨b, off, rfl, _, hc⟩⟩
   ·omega
   ·omega
   ·have hcn := hc k hkN
    clear hc
    generalize lz xs k = x at *
    go_wp2_with (at_builtin; refine wpList_append_run rfl _ _ 40 rfl _ _ rfl rfl _ (run_append_one hO _ ((x * n + cr) % 4294967296) (by omega) (by omega) (by omega)) ?_; rintro v' w3 ⟨ad', cap', rfl, ho3, -, -, -⟩)
    exact ⟨⟨k + 1, _, ad', cap', _, by omega, by go_num, rfl, rfl, by omega, by omega, ho3, HS⟩, by simp [intOf]; omega⟩
  ·have HE : Hid (val (zs ++ [cr]) = val xs * n + m) := by
    show _ = _
    rw [val_snoc, hO.rd.1, HV.out, vl_ge (by have := L1.out; omega)]
   go_wp2_with (at_builtin; refine wpList_append_run rfl _ _ 40 rfl _ _ rfl rfl _ (run_append_one hO _ cr (by omega) (by omega) (by omega)) ?_; rintro v' w3 ⟨ad', cap', rfl, ho3, -, -, -⟩)
   refine (trim_any ho3.rd (by omega)).mono ?_
   rintro e w4 ⟨rfl, ho4, -⟩
   have hlen := tl_le (zs ++ [cr]) (k + 1)
   go_wp2_with fail
   go_ret
   exact ⟨_, _, _, _, rfl, ho4.outer ho3.1, canon_trim ho3.rd.2.2.2.1, (val_trim _).trans HE.out, by omega⟩

end Go.Proofs.YtcgdhbgjmapoeaaDoor

namespace Go.Proofs.YtcgdhbgjmapoeaaDoor
open Go.RowKit

set_option maxRecDepth 100000 in
set_option maxHeartbeats 3200000 in
theorem refparse_yes (s : ByteArray) (w : World) (hs : s.size ≤ 17179869184) (hok : okText s) :
  Calls Tryd.prog 37 #[.string s] w fun e w' => ∃ ad len cap zs, e = .returned (.tuple #[.slice ad len cap, .bool true]) ∧ Out w w' ad len cap zs ∧ Canon zs ∧ val zs = (dr s 0 s.size : Int) ∧ len ≤ s.size := by
 obtain ⟨h0, h1, h2⟩ := hok
 have e0 := bt_eq s 0 h0
 have H2 := hide h2
 have hne := ne_empty h0
 by_cases h11 : 1 < s.size
 ·have hb0 : (((s[0]'h0).toNat : Int) == 48) = false := by
   rw [beq_eq_false_iff_ne]
   intro h
   exact h1 ⟨h11, by omega⟩
  have hd1 : decide ((1 : Int) < (s.size : Int)) = true := by simp; omega
  clear h1 h2 e0
  go_enter Tryd.func37, Tryd.ntmps37
  go_wp2_with fail
  go_loop [5] (fun i => ∃ k : Nat, k ≤ s.size ∧ i = .int .i64 k) (fun i => s.size - (intOf i).toNat)
  case atStart => exact ⟨0, Nat.zero_le _, rfl⟩
  case round =>
   obtain ⟨k, hk, rfl⟩ := hrel
   by_cases hkl : k < s.size
   ·have hb := (unhide H2) k hkl
    rw [bt_eq s k hkl] at hb
    have hk1 : decide (((s[k]'hkl).toNat : Int) < 48) = false := by simp; omega
    have hk2 : decide ((57 : Int) < ((s[k]'hkl).toNat : Int)) = false := by simp; omega
    clear hb
    go_wp2_with fail
    exact ⟨⟨k + 1, by omega, by go_num⟩, by simp [intOf]; omega⟩
   ·go_wp2_with fail
    go_loopw [4, 6] (fun o i wr => ∃ (k : Nat) (ad : Option Addr) (len cap : Nat) (zs : List Int), k ≤ s.size ∧ i = .int .i64 k ∧ o = .slice ad len cap ∧ Out w wr ad len cap zs ∧ Canon zs ∧ Hid (val zs = (dr s 0 k : Int)) ∧ len ≤ k) (fun _ i _ => s.size - (intOf i).toNat)
    case atStart => exact ⟨0, none, 0, 0, [], Nat.zero_le _, rfl, rfl, out_nil w, canon_nil, (by show _ = _; rfl), Nat.le_refl _⟩
    case round =>
     obtain ⟨j, ad, len, cap, zs, hj, rfl, rfl, hO, hcn, HV, hlen⟩ := hrel
     by_cases hjl : j < s.size
     ·have hb := (unhide H2) j hjl
      have hbt := bt_eq s j hjl
      have HB := hide hbt
      rw [hbt] at hb
      clear hbt
      have hb0 : (48 : Int) ≤ ((s[j]'hjl).toNat : Int) := by omega
      have hb1 : ((s[j]'hjl).toNat : Int) ≤ 57 := by omega
      clear hb
      go_wp2_with fail
      refine (reftimes_any (n := 10) (m := ((s[j]'hjl).toNat : Int) - 48) hO.rd (by omega) (by decide) (by decide) (by omega) (by omega)).mono ?_
      rintro e w4 ⟨a4, l4, c4, z4, rfl, ho4, hc4, hv4, hl4⟩
      have hd : val z4 = (dr s 0 (j + 1) : Int) := by
       rw [hv4, HV.out]
       show _ = ((dr s 0 j * 10 + (bt s (0 + j) - 48) : Nat) : Int)
       rw [Nat.zero_add, unhide HB]
       omega
      have hl5 : l4 ≤ j + 1 := by
       rw [← ho4.rd.1]
       refine canon_len hc4 ?_
       rw [hd]
       exact dr_pw s (j + 1) (fun i hi => by rw [Nat.zero_add]; exact ((unhide H2) i (by omega)).2)
      have HD := hide hd
      clear hd hv4
      go_wp2_with fail
      exact ⟨⟨j + 1, a4, l4, c4, z4, by omega, by go_num, rfl, ho4.outer hO.1, hc4, HD, hl5⟩, by simp [intOf]; omega⟩
     ·obtain rfl : j = s.size := by omega
      go_wp2_with fail
      refine bodyPost_ret (results_tmp2 rfl _ _ _) rfl ?_
      exact ⟨ad, len, cap, zs, rfl, hO, hcn, HV.out, hlen⟩
 ·have hd1 : decide ((1 : Int) < (s.size : Int)) = false := by simp; omega
  clear h1 h2 e0
  cases hb0 : (((s[0]'h0).toNat : Int) == 48)
  ·go_enter Tryd.func37, Tryd.ntmps37
   go_wp2_with fail
   go_loop [5] (fun i => ∃ k : Nat, k ≤ s.size ∧ i = .int .i64 k) (fun i => s.size - (intOf i).toNat)
   case atStart => exact ⟨0, Nat.zero_le _, rfl⟩
   case round =>
    obtain ⟨k, hk, rfl⟩ := hrel
    by_cases hkl : k < s.size
    ·have hb := (unhide H2) k hkl
     rw [bt_eq s k hkl] at hb
     have hk1 : decide (((s[k]'hkl).toNat : Int) < 48) = false := by simp; omega
     have hk2 : decide ((57 : Int) < ((s[k]'hkl).toNat : Int)) = false := by simp; omega
     clear hb
     go_wp2_with fail
     exact ⟨⟨k + 1, by omega, by go_num⟩, by simp [intOf]; omega⟩
    ·go_wp2_with fail
     go_loopw [4, 6] (fun o i wr => ∃ (k : Nat) (ad : Option Addr) (len cap : Nat) (zs : List Int), k ≤ s.size ∧ i = .int .i64 k ∧ o = .slice ad len cap ∧ Out w wr ad len cap zs ∧ Canon zs ∧ Hid (val zs = (dr s 0 k : Int)) ∧ len ≤ k) (fun _ i _ => s.size - (intOf i).toNat)
     case atStart => exact ⟨0, none, 0, 0, [], Nat.zero_le _, rfl, rfl, out_nil w, canon_nil, (by show _ = _; rfl), Nat.le_refl _⟩
     case round =>
      obtain ⟨j, ad, len, cap, zs, hj, rfl, rfl, hO, hcn, HV, hlen⟩ := hrel
      by_cases hjl : j < s.size
      ·have hb := (unhide H2) j hjl
       have hbt := bt_eq s j hjl
       have HB := hide hbt
       rw [hbt] at hb
       clear hbt
       have hb0 : (48 : Int) ≤ ((s[j]'hjl).toNat : Int) := by omega
       have hb1 : ((s[j]'hjl).toNat : Int) ≤ 57 := by omega
       clear hb
       go_wp2_with fail
       refine (reftimes_any (n := 10) (m := ((s[j]'hjl).toNat : Int) - 48) hO.rd (by omega) (by decide) (by decide) (by omega) (by omega)).mono ?_
       rintro e w4 ⟨a4, l4, c4, z4, rfl, ho4, hc4, hv4, hl4⟩
       have hd : val z4 = (dr s 0 (j + 1) : Int) := by
        rw [hv4, HV.out]
        show _ = ((dr s 0 j * 10 + (bt s (0 + j) - 48) : Nat) : Int)
        rw [Nat.zero_add, unhide HB]
        omega
       have hl5 : l4 ≤ j + 1 := by
        rw [← ho4.rd.1]
        refine canon_len hc4 ?_
        rw [hd]
        exact dr_pw s (j + 1) (fun i hi => by rw [Nat.zero_add]; exact ((unhide H2) i (by omega)).2)
       have HD := hide hd
       clear hd hv4
       go_wp2_with fail
       exact ⟨⟨j + 1, a4, l4, c4, z4, by omega, by go_num, rfl, ho4.outer hO.1, hc4, HD, hl5⟩, by simp [intOf]; omega⟩
      ·obtain rfl : j = s.size := by omega
       go_wp2_with fail
       refine bodyPost_ret (results_tmp2 rfl _ _ _) rfl ?_
       exact ⟨ad, len, cap, zs, rfl, hO, hcn, HV.out, hlen⟩

  ·go_enter Tryd.func37, Tryd.ntmps37
   go_wp2_with fail
   go_loop [5] (fun i => ∃ k : Nat, k ≤ s.size ∧ i = .int .i64 k) (fun i => s.size - (intOf i).toNat)
   case atStart => exact ⟨0, Nat.zero_le _, rfl⟩
   case round =>
    obtain ⟨k, hk, rfl⟩ := hrel
    by_cases hkl : k < s.size
    ·have hb := (unhide H2) k hkl
     rw [bt_eq s k hkl] at hb
     have hk1 : decide (((s[k]'hkl).toNat : Int) < 48) = false := by simp; omega
     have hk2 : decide ((57 : Int) < ((s[k]'hkl).toNat : Int)) = false := by simp; omega
     clear hb
     go_wp2_with fail
     exact ⟨⟨k + 1, by omega, by go_num⟩, by simp [intOf]; omega⟩
    ·go_wp2_with fail
     go_loopw [4, 6] (fun o i wr => ∃ (k : Nat) (ad : Option Addr) (len cap : Nat) (zs : List Int), k ≤ s.size ∧ i = .int .i64 k ∧ o = .slice ad len cap ∧ Out w wr ad len cap zs ∧ Canon zs ∧ Hid (val zs = (dr s 0 k : Int)) ∧ len ≤ k) (fun _ i _ => s.size - (intOf i).toNat)
     case atStart => exact ⟨0, none, 0, 0, [], Nat.zero_le _, rfl, rfl, out_nil w, canon_nil, (by show _ = _; rfl), Nat.le_refl _⟩
     case round =>
      obtain ⟨j, ad, len, cap, zs, hj, rfl, rfl, hO, hcn, HV, hlen⟩ := hrel
      by_cases hjl : j < s.size
      ·have hb := (unhide H2) j hjl
       have hbt := bt_eq s j hjl
       have HB := hide hbt
       rw [hbt] at hb
       clear hbt
       have hb0 : (48 : Int) ≤ ((s[j]'hjl).toNat : Int) := by omega
       have hb1 : ((s[j]'hjl).toNat : Int) ≤ 57 := by omega
       clear hb
       go_wp2_with fail
       refine (reftimes_any (n := 10) (m := ((s[j]'hjl).toNat : Int) - 48) hO.rd (by omega) (by decide) (by decide) (by omega) (by omega)).mono ?_
       rintro e w4 ⟨a4, l4, c4, z4, rfl, ho4, hc4, hv4, hl4⟩
       have hd : val z4 = (dr s 0 (j + 1) : Int) := by
        rw [hv4, HV.out]
        show _ = ((dr s 0 j * 10 + (bt s (0 + j) - 48) : Nat) : Int)
        rw [Nat.zero_add, unhide HB]
        omega
       have hl5 : l4 ≤ j + 1 := by
        rw [← ho4.rd.1]
        refine canon_len hc4 ?_
        rw [hd]
        exact dr_pw s (j + 1) (fun i hi => by rw [Nat.zero_add]; exact ((unhide H2) i (by omega)).2)
       have HD := hide hd
       clear hd hv4
       go_wp2_with fail
       exact ⟨⟨j + 1, a4, l4, c4, z4, by omega, by go_num, rfl, ho4.outer hO.1, hc4, HD, hl5⟩, by simp [intOf]; omega⟩
      ·obtain rfl : j = s.size := by omega
       go_wp2_with fail
       refine bodyPost_ret (results_tmp2 rfl _ _ _) rfl ?_
       exact ⟨ad, len, cap, zs, rfl, hO, hcn, HV.out, hlen⟩

set_option maxRecDepth 100000 in
set_option maxHeartbeats 3200000 in
theorem refparse_no (s : ByteArray) (w : World) (hs : s.size ≤ 9223372036854775807) (hok : ¬ okText s) :
  Calls Tryd.prog 37 #[.string s] w fun e w' => e = .returned (.tuple #[.slice none 0 0, .bool false]) ∧ w = w' := by
 by_cases h0 : s.size = 0
 ·have hne := is_empty h0
  clear hok
  go_enter Tryd.func37, Tryd.ntmps37
  go_wp2_with fail
  refine bodyPost_ret (results_tmp2 rfl _ _ _) rfl ?_
  exact ⟨rfl, rfl⟩
 ·have hpos : 0 < s.size := by omega
  have hne := ne_empty hpos
  have e0 := bt_eq s 0 hpos
  have HP := hide h0
  clear h0
  by_cases h1 : 1 < s.size ∧ bt s 0 = 48
  ·have h11 := h1.1
   have hb0 : (((s[0]'hpos).toNat : Int) == 48) = true := by
    rw [beq_iff_eq]
    have := h1.2
    omega
   have hd1 : decide ((1 : Int) < (s.size : Int)) = true := by simp; omega
   clear hok h1 e0
   go_enter Tryd.func37, Tryd.ntmps37
   go_wp2_with fail
   refine bodyPost_ret (results_tmp2 rfl _ _ _) rfl ?_
   exact ⟨rfl, rfl⟩
  ·have hbad : Hid (¬ ∀ i, i < s.size → 48 ≤ bt s i ∧ bt s i ≤ 57) := fun h => hok ⟨hpos, h1, h⟩
   by_cases h11 : 1 < s.size
   ·have hb0 : (((s[0]'hpos).toNat : Int) == 48) = false := by
     rw [beq_eq_false_iff_ne]
     intro h
     exact h1 ⟨h11, by omega⟩
    have hd1 : decide ((1 : Int) < (s.size : Int)) = true := by simp; omega
    clear hok h1 e0
    go_enter Tryd.func37, Tryd.ntmps37
    go_wp2_with fail
    go_loop [5] (fun i => ∃ k : Nat, k ≤ s.size ∧ i = .int .i64 k ∧ ∀ j, j < k → 48 ≤ bt s j ∧ bt s j ≤ 57) (fun i => s.size - (intOf i).toNat)
    case atStart => exact ⟨0, Nat.zero_le _, rfl, fun j hj => absurd hj (by omega)⟩
    case round =>
     obtain ⟨k, hk, rfl, hg⟩ := hrel
     have HG := hide hg
     clear hg
     by_cases hkl : k < s.size
     ·have ek := bt_eq s k hkl
      by_cases hc1 : bt s k < 48
      ·have hk1 : decide (((s[k]'hkl).toNat : Int) < 48) = true := by simp; omega
       clear ek hc1
       go_wp2_with fail
       refine bodyPost_ret (results_tmp2 rfl _ _ _) rfl ?_
       exact ⟨rfl, rfl⟩
      ·by_cases hc2 : 57 < bt s k
       ·have hk1 : decide (((s[k]'hkl).toNat : Int) < 48) = false := by simp; omega
        have hk2 : decide ((57 : Int) < ((s[k]'hkl).toNat : Int)) = true := by simp; omega
        clear ek hc1 hc2
        go_wp2_with fail
        refine bodyPost_ret (results_tmp2 rfl _ _ _) rfl ?_
        exact ⟨rfl, rfl⟩
       ·have hk1 : decide (((s[k]'hkl).toNat : Int) < 48) = false := by simp; omega
        have hk2 : decide ((57 : Int) < ((s[k]'hkl).toNat : Int)) = false := by simp; omega
        have HN := hide (show 48 ≤ bt s k ∧ bt s k ≤ 57 from by omega)
        clear ek hc1 hc2
        go_wp2_with fail
        exact ⟨⟨k + 1, by omega, by go_num, fun j hj => (by by_cases e : j = k; { rw [e]; exact unhide HN }; { exact (unhide HG) j (by omega) })⟩, by simp [intOf]; omega⟩
     ·exact absurd (fun i hi => (unhide HG) i (by omega)) (unhide hbad)
   ·have hd1 : decide ((1 : Int) < (s.size : Int)) = false := by simp; omega
    clear hok h1 e0
    cases hb0 : (((s[0]'hpos).toNat : Int) == 48)
    ·go_enter Tryd.func37, Tryd.ntmps37
     go_wp2_with fail
     go_loop [5] (fun i => ∃ k : Nat, k ≤ s.size ∧ i = .int .i64 k ∧ ∀ j, j < k → 48 ≤ bt s j ∧ bt s j ≤ 57) (fun i => s.size - (intOf i).toNat)
     case atStart => exact ⟨0, Nat.zero_le _, rfl, fun j hj => absurd hj (by omega)⟩
     case round =>
      obtain ⟨k, hk, rfl, hg⟩ := hrel
      have HG := hide hg
      clear hg
      by_cases hkl : k < s.size
      ·have ek := bt_eq s k hkl
       by_cases hc1 : bt s k < 48
       ·have hk1 : decide (((s[k]'hkl).toNat : Int) < 48) = true := by simp; omega
        clear ek hc1
        go_wp2_with fail
        refine bodyPost_ret (results_tmp2 rfl _ _ _) rfl ?_
        exact ⟨rfl, rfl⟩
       ·by_cases hc2 : 57 < bt s k
        ·have hk1 : decide (((s[k]'hkl).toNat : Int) < 48) = false := by simp; omega
         have hk2 : decide ((57 : Int) < ((s[k]'hkl).toNat : Int)) = true := by simp; omega
         clear ek hc1 hc2
         go_wp2_with fail
         refine bodyPost_ret (results_tmp2 rfl _ _ _) rfl ?_
         exact ⟨rfl, rfl⟩
        ·have hk1 : decide (((s[k]'hkl).toNat : Int) < 48) = false := by simp; omega
         have hk2 : decide ((57 : Int) < ((s[k]'hkl).toNat : Int)) = false := by simp; omega
         have HN := hide (show 48 ≤ bt s k ∧ bt s k ≤ 57 from by omega)
         clear ek hc1 hc2
         go_wp2_with fail
         exact ⟨⟨k + 1, by omega, by go_num, fun j hj => (by by_cases e : j = k; { rw [e]; exact unhide HN }; { exact (unhide HG) j (by omega) })⟩, by simp [intOf]; omega⟩
      ·exact absurd (fun i hi => (unhide HG) i (by omega)) (unhide hbad)
    ·go_enter Tryd.func37, Tryd.ntmps37
     go_wp2_with fail
     go_loop [5] (fun i => ∃ k : Nat, k ≤ s.size ∧ i = .int .i64 k ∧ ∀ j, j < k → 48 ≤ bt s j ∧ bt s j ≤ 57) (fun i => s.size - (intOf i).toNat)
     case atStart => exact ⟨0, Nat.zero_le _, rfl, fun j hj => absurd hj (by omega)⟩
     case round =>
      obtain ⟨k, hk, rfl, hg⟩ := hrel
      have HG := hide hg
      clear hg
      by_cases hkl : k < s.size
      ·have ek := bt_eq s k hkl
       by_cases hc1 : bt s k < 48
       ·have hk1 : decide (((s[k]'hkl).toNat : Int) < 48) = true := by simp; omega
        clear ek hc1
        go_wp2_with fail
        refine bodyPost_ret (results_tmp2 rfl _ _ _) rfl ?_
        exact ⟨rfl, rfl⟩
       ·by_cases hc2 : 57 < bt s k
        ·have hk1 : decide (((s[k]'hkl).toNat : Int) < 48) = false := by simp; omega
         have hk2 : decide ((57 : Int) < ((s[k]'hkl).toNat : Int)) = true := by simp; omega
         clear ek hc1 hc2
         go_wp2_with fail
         refine bodyPost_ret (results_tmp2 rfl _ _ _) rfl ?_
         exact ⟨rfl, rfl⟩
        ·have hk1 : decide (((s[k]'hkl).toNat : Int) < 48) = false := by simp; omega
         have hk2 : decide ((57 : Int) < ((s[k]'hkl).toNat : Int)) = false := by simp; omega
         have HN := hide (show 48 ≤ bt s k ∧ bt s k ≤ 57 from by omega)
         clear ek hc1 hc2
         go_wp2_with fail
         exact ⟨⟨k + 1, by omega, by go_num, fun j hj => (by by_cases e : j = k; { rw [e]; exact unhide HN }; { exact (unhide HG) j (by omega) })⟩, by simp [intOf]; omega⟩
      ·exact absurd (fun i hi => (unhide HG) i (by omega)) (unhide hbad)

end Go.Proofs.YtcgdhbgjmapoeaaDoor
