/-
 Several texts in one: T2, T3, T4, T5, K1, Kp, X1, X2, X3, X4, X5, X6, X7.
-/
import Derived.Test.YtcgdhbgjmapoeaaDoorP04
import Derived.Test.YtcgdhbgjmapoeaaDoorP02
import Derived.Deep.LoopGhost
namespace Go.Proofs.YtcgdhbgjmapoeaaDoor
open Go.RowKit

/-- bare of an answer of the call's own -/
theorem bare_out {w0 w : World} {ad : Option Addr} {n cap : Nat} {X : List Int} (h : Out w0 w ad n cap X) :
  Calls Tryd.prog 49 #[.slice ad n cap] w fun e w' => e = .returned (.slice ad (tl X n) cap) ∧ w = w' := bare_any h.rd

theorem Out.trimmed {w0 w : World} {ad : Option Addr} {n cap : Nat} {X : List Int} (h : Out w0 w ad n cap X) : Out w0 w ad (tl X n) cap (trim X) ∧ Canon (trim X) := by
 have hrd := h.rd
 refine ⟨?_, canon_trim hrd.2.2.2.1⟩
 have hn := hrd.1
 obtain ⟨hB, ⟨rfl, rfl, rfl, rfl⟩ | ⟨b, zs, rfl, hb, hr, hlz, hzl, hle, hm, rfl⟩⟩ := h
 ·exact ⟨hB, .inl ⟨rfl, rfl, rfl, rfl⟩⟩
 ·have e : tl (zs.take n) n = tl zs n := tl_congr (fun i hi => by rw [lz_take, if_pos hi])
  have hb2 := tl_le zs n
  refine ⟨hB, .inr ⟨b, zs, rfl, hb, hr, hlz, hzl, by omega, hm, ?_⟩⟩
  unfold trim
  rw [hn, e, List.take_take, Nat.min_eq_left hb2]

theorem Out.alloc {w0 w : World} {ad : Option Addr} {n cap : Nat} {X : List Int} (h : Out w0 w ad n cap X) (o : Obj) : Out w0 (w.alloc o) ad n cap X :=
 h.keep (h.1.alloc h.1.size _) (fun _ hb => Below.heap_alloc _ _ _ (h.lt hb).2)

/-- append of one limb -/
theorem run_append_one {w0 w : World} {ad : Option Addr} {n cap : Nat} {xs : List Int} (hO : Out w0 w ad n cap xs) (ty : TypeId) (x : Int) (h0 : 0 ≤ x) (h1 : x < 4294967296) (hbig : n + 1 ≤ 35184372088832) :
  ∃ v' w', (Builtin.append_ #[40, 40] ty #[.slice ad n cap, .slice (some ⟨w.heap.size, 0, none⟩) 1 1]).run Tryd.prog (w.alloc (.cells #[.int .u32 x] 55)) = .ok v' w' ∧
   ∃ ad' cap', v' = .slice ad' (n + 1) cap' ∧ Out w0 w' ad' (n + 1) cap' (xs ++ [x]) ∧ (∀ k, k < w.heap.size → blk ad ≠ some k → w'.heap[k]? = w.heap[k]?) ∧ w.heap.size ≤ w'.heap.size ∧ (∀ k, blk ad' = some k → blk ad = some k ∨ w.heap.size ≤ k) := by
 obtain ⟨v', w', hr, ad', cap', hv, ho, hg, hbk⟩ := run_append_out (hO.alloc (.cells #[.int .u32 x] 55)) ty ⟨w.heap.size, 0, none⟩ 1 1 [x] rfl (fun z hz => by rw [List.mem_singleton.1 hz]; exact ⟨h0, h1⟩) (fun j hj => by
  obtain rfl : j = 0 := by omega
  rw [Addr.add_lit]
  exact (row_alloc w [x]).cell (i := 0) (by simp)) hbig
 refine ⟨v', w', hr, ad', cap', hv, ho, fun k hk hne => ?_, ?_, fun k hk => ?_⟩
 ·rw [hg.block k (by simp; omega) (fun e => hne e.symm)]
  exact Below.heap_alloc _ _ _ hk
 ·have := hg.size; simp at this; omega
 ·rcases hbk k hk with h | h
  ·exact .inl h
  ·exact .inr (by simp at h; omega)

theorem lz_snoc (ps : List Int) (x : Int) : lz (ps ++ [x]) ps.length = x := by simp [lz]

end Go.Proofs.YtcgdhbgjmapoeaaDoor

namespace Go.Proofs.YtcgdhbgjmapoeaaDoor
open Go.RowKit

end Go.Proofs.YtcgdhbgjmapoeaaDoor

namespace Go.Proofs.YtcgdhbgjmapoeaaDoor
open Go.RowKit

/-- the byte at a place -/
def bt (s : ByteArray) (i : Nat) : Nat := (s.data.toList.getD i 0).toNat

theorem bt_eq (s : ByteArray) (i : Nat) (h : i < s.size) : bt s i = (s[i]'h).toNat := by
  unfold bt
  have : s.data.toList.getD i 0 = s[i]'h := by
    have h2 : i < s.data.size := h
    have e : s.data.toList[i]? = some (s.data[i]'h2) := by simp
    rw [List.getD_eq_getElem?_getD, e]
    rfl
  rw [this]

/-- has some number this text? -/
abbrev okText (s : ByteArray) : Prop := 0 < s.size ∧ ¬ (1 < s.size ∧ bt s 0 = 48) ∧ ∀ i, i < s.size → 48 ≤ bt s i ∧ bt s i ≤ 57

theorem ne_empty {s : ByteArray} (h : 0 < s.size) : s.toList.isEmpty = false := by
  rw [ByteArray.toList_eq]
  have : 0 < s.data.toList.length := by rw [Array.length_toList]; exact h
  cases hq : s.data.toList with
  | nil => rw [hq] at this; simp at this
  | cons x r => rfl

theorem is_empty {s : ByteArray} (h : s.size = 0) : s.toList.isEmpty = true := by
  rw [ByteArray.toList_eq]
  have : s.data.toList.length = 0 := by rw [Array.length_toList]; exact h
  rw [List.eq_nil_of_length_eq_zero this]; rfl

theorem bt_lt (s : ByteArray) (i : Nat) : bt s i < 256 := UInt8.toNat_lt _

set_option maxRecDepth 100000 in
set_option maxHeartbeats 1600000 in
theorem isText_yes (s : ByteArray) (w : World) (hs : s.size ≤ 9223372036854775807) (hok : okText s) :
    Calls Tryd.prog 46 #[.string s] w fun e w' => e = .returned (.bool true) ∧ w = w' := by
  obtain ⟨h0, h1, h2⟩ := hok
  have e0 := bt_eq s 0 h0
  have H2 := hide h2
  have hne := ne_empty h0
  by_cases h11 : 1 < s.size
  · have hb0 : (((s[0]'h0).toNat : Int) == 48) = false := by
      rw [beq_eq_false_iff_ne]
      intro h
      exact h1 ⟨h11, by omega⟩
    have hd1 : decide ((1 : Int) < (s.size : Int)) = true := by simp; omega
    clear h1 h2 e0
    go_enter Tryd.func46, Tryd.ntmps46
    go_wp2
    go_loop [18] (fun i => ∃ k : Nat, k ≤ s.size ∧ i = .int .i64 k) (fun i => s.size - (intOf i).toNat)
    case atStart => exact ⟨0, Nat.zero_le _, rfl⟩
    case round =>
      obtain ⟨k, hk, rfl⟩ := hrel
      by_cases hkl : k < s.size
      · have hb := (unhide H2) k hkl
        rw [bt_eq s k hkl] at hb
        have hk1 : decide (((s[k]'hkl).toNat : Int) < 48) = false := by simp; omega
        have hk2 : decide ((57 : Int) < ((s[k]'hkl).toNat : Int)) = false := by simp; omega
        clear hb
        go_wp2
        exact ⟨⟨k + 1, by omega, by go_num⟩, by simp [intOf]; omega⟩
      · go_wp2
        go_ret
        exact ⟨rfl, rfl⟩
  · have hd1 : decide ((1 : Int) < (s.size : Int)) = false := by simp; omega
    clear h1 h2 e0
    go_enter Tryd.func46, Tryd.ntmps46
    go_wp2
    go_loop [18] (fun i => ∃ k : Nat, k ≤ s.size ∧ i = .int .i64 k) (fun i => s.size - (intOf i).toNat)
    case atStart => exact ⟨0, Nat.zero_le _, rfl⟩
    case round =>
      obtain ⟨k, hk, rfl⟩ := hrel
      by_cases hkl : k < s.size
      · have hb := (unhide H2) k hkl
        rw [bt_eq s k hkl] at hb
        have hk1 : decide (((s[k]'hkl).toNat : Int) < 48) = false := by simp; omega
        have hk2 : decide ((57 : Int) < ((s[k]'hkl).toNat : Int)) = false := by simp; omega
        clear hb
        go_wp2
        exact ⟨⟨k + 1, by omega, by go_num⟩, by simp [intOf]; omega⟩
      · go_wp2
        go_ret
        exact ⟨rfl, rfl⟩

set_option maxRecDepth 100000 in
set_option maxHeartbeats 1600000 in
theorem isText_no (s : ByteArray) (w : World) (hs : s.size ≤ 9223372036854775807) (hok : ¬ okText s) :
    Calls Tryd.prog 46 #[.string s] w fun e w' => e = .returned (.bool false) ∧ w = w' := by
  by_cases h0 : s.size = 0
  · have hne := is_empty h0
    clear hok
    go_enter Tryd.func46, Tryd.ntmps46
    go_wp2
    go_ret
    exact ⟨rfl, rfl⟩
  · have hpos : 0 < s.size := by omega
    have hne := ne_empty hpos
    have e0 := bt_eq s 0 hpos
    have HP := hide h0
    clear h0
    by_cases h1 : 1 < s.size ∧ bt s 0 = 48
    · have h11 := h1.1
      have hb0 : (((s[0]'hpos).toNat : Int) == 48) = true := by
        rw [beq_iff_eq]
        have := h1.2
        omega
      have hd1 : decide ((1 : Int) < (s.size : Int)) = true := by simp; omega
      clear hok h1 e0
      go_enter Tryd.func46, Tryd.ntmps46
      go_wp2
      go_ret
      exact ⟨rfl, rfl⟩
    · have hbad : Hid (¬ ∀ i, i < s.size → 48 ≤ bt s i ∧ bt s i ≤ 57) := fun h => hok ⟨hpos, h1, h⟩
      by_cases h11 : 1 < s.size
      all_goals
        first
        | (have hb0 : (((s[0]'hpos).toNat : Int) == 48) = false := by (rw [beq_eq_false_iff_ne]; intro h; exact h1 ⟨h11, by omega⟩)
           have hd1 : decide ((1 : Int) < (s.size : Int)) = true := by (simp; omega))
        | have hd1 : decide ((1 : Int) < (s.size : Int)) = false := by (simp; omega)
        clear hok h1 e0
        go_enter Tryd.func46, Tryd.ntmps46
        go_wp2
        go_loop [18] (fun i => ∃ k : Nat, k ≤ s.size ∧ i = .int .i64 k ∧ ∀ j, j < k → 48 ≤ bt s j ∧ bt s j ≤ 57) (fun i => s.size - (intOf i).toNat)
        case atStart => exact ⟨0, Nat.zero_le _, rfl, fun j hj => absurd hj (by omega)⟩
        case round =>
          obtain ⟨k, hk, rfl, hg⟩ := hrel
          have HG := hide hg
          clear hg
          by_cases hkl : k < s.size
          · have ek := bt_eq s k hkl
            by_cases hc1 : bt s k < 48
            · have hk1 : decide (((s[k]'hkl).toNat : Int) < 48) = true := by simp; omega
              clear ek hc1
              go_wp2
              go_ret
              exact ⟨rfl, rfl⟩
            · by_cases hc2 : 57 < bt s k
              · have hk1 : decide (((s[k]'hkl).toNat : Int) < 48) = false := by simp; omega
                have hk2 : decide ((57 : Int) < ((s[k]'hkl).toNat : Int)) = true := by simp; omega
                clear ek hc1 hc2
                go_wp2
                go_ret
                exact ⟨rfl, rfl⟩
              · have hk1 : decide (((s[k]'hkl).toNat : Int) < 48) = false := by simp; omega
                have hk2 : decide ((57 : Int) < ((s[k]'hkl).toNat : Int)) = false := by simp; omega
                have HN := hide (show 48 ≤ bt s k ∧ bt s k ≤ 57 from by omega)
                clear ek hc1 hc2
                go_wp2
                exact ⟨⟨k + 1, by omega, by go_num, fun j hj => (by by_cases e : j = k; { rw [e]; exact unhide HN }; { exact (unhide HG) j (by omega) })⟩, by simp [intOf]; omega⟩
          · exact absurd (fun i hi => (unhide HG) i (by omega)) (unhide hbad)
end Go.Proofs.YtcgdhbgjmapoeaaDoor

namespace Go.Proofs.YtcgdhbgjmapoeaaDoor
open Go.RowKit

/-- the number of k digits from place a on -/
def dr (s : ByteArray) (a : Nat) : Nat → Nat
 | 0 => 0
 | k + 1 => dr s a k * 10 + (bt s (a + k) - 48)

theorem dr_lt (s : ByteArray) (a : Nat) (k : Nat) (h : ∀ i, i < k → bt s (a + i) ≤ 57) : dr s a k < 10 ^ k := by
 induction k with
 | zero => simp [dr]
 | succ k ih =>
  have h1 := ih (fun i hi => h i (by omega))
  have h2 := h k (by omega)
  simp only [dr, Nat.pow_succ]
  omega

theorem dr_add (s : ByteArray) (a m k : Nat) : dr s a (m + k) = dr s a m * 10 ^ k + dr s (a + m) k := by
 induction k with
 | zero => simp [dr]
 | succ k ih =>
  rw [← Nat.add_assoc]
  simp only [dr, ih, Nat.pow_succ]
  rw [Nat.add_mul, Nat.mul_assoc, Nat.add_assoc a m k]
  omega

theorem dr_congr {s t : ByteArray} {a b k : Nat} (h : ∀ i, i < k → bt s (a + i) = bt t (b + i)) : dr s a k = dr t b k := by
 induction k with
 | zero => rfl
 | succ k ih => simp only [dr, ih (fun i hi => h i (by omega)), h k (by omega)]

theorem pow_le9 {k : Nat} (h : k ≤ 8) : 10 ^ k ≤ 100000000 := by
 have : 10 ^ k ≤ 10 ^ 8 := Nat.pow_le_pow_right (by decide) h
 simpa using this

set_option maxRecDepth 100000 in
set_option maxHeartbeats 1600000 in
theorem value_any (s : ByteArray) (w : World) (hs : s.size ≤ 9) (hd : ∀ i, i < s.size → 48 ≤ bt s i ∧ bt s i ≤ 57) :
  Calls Tryd.prog 48 #[.string s] w fun e w' => e = .returned (.int .u32 (dr s 0 s.size)) ∧ w = w' := by
 have HD := hide hd
 clear hd
 go_enter Tryd.func48, Tryd.ntmps48
 go_wp2
 go_loop [3, 7] (fun n i => ∃ k : Nat, k ≤ s.size ∧ i = .int .i64 k ∧ n = .int .u32 (dr s 0 k)) (fun _ i => s.size - (intOf i).toNat)
 case atStart => exact ⟨0, Nat.zero_le _, rfl, rfl⟩
 case round =>
  obtain ⟨k, hk, rfl, rfl⟩ := hrel
  by_cases hkl : k < s.size
  ·have hb := (unhide HD) k hkl
   have hlt := dr_lt s 0 k (fun i hi => ((unhide HD) (0 + i) (by omega)).2)
   have h8 := pow_le9 (k := k) (by omega)
   have hnew := hide (show dr s 0 (k + 1) = dr s 0 k * 10 + (bt s k - 48) from by simp [dr])
   rw [bt_eq s k hkl] at hb hnew
   generalize dr s 0 k = d at *
   go_wp2
   exact ⟨⟨k + 1, by omega, by go_num, by rw [unhide hnew]; congr 1; omega⟩, by simp [intOf]; omega⟩
  ·obtain rfl : k = s.size := by omega
   go_wp2
   go_ret
   exact ⟨rfl, rfl⟩

set_option maxRecDepth 100000 in
set_option maxHeartbeats 1600000 in
theorem times_out {w0 w : World} {ad : Option Addr} {n cap : Nat} {X : List Int} {f p : Int} (h : Out w0 w ad n cap X) (hbig : n ≤ 1099511627776) (hf0 : 0 ≤ f) (hf1 : f < 4294967296) (hp0 : 0 ≤ p) (hp1 : p < 4294967296) :
  Calls Tryd.prog 47 #[.slice ad n cap, .int .u32 f, .int .u32 p] w fun e w' => ∃ Y cr, e = .returned (.int .u32 cr) ∧ 0 ≤ cr ∧ cr < 4294967296 ∧ Out w0 w' ad n cap Y ∧ val Y + cr * pw n = val X * f + p ∧ w'.heap.size = w.heap.size ∧ (∀ k, blk ad ≠ some k → w'.heap[k]? = w.heap[k]?) := by
 obtain ⟨hB, ⟨rfl, rfl, rfl, rfl⟩ | ⟨b, zs, rfl, hb, hr, hlz, hzl, hle, hm, rfl⟩⟩ := h
 ·go_enter Tryd.func47, Tryd.ntmps47
  go_wp2
  refine wp_loop_rounds 1 ?_
  rw [rounds_succ]
  go_wp2
  go_ret
  refine ⟨[], p, rfl, hp0, hp1, ⟨hB, .inl ⟨rfl, rfl, rfl, rfl⟩⟩, ?_, rfl, fun _ _ => rfl⟩
  simp [val, vl, pw]
 ·go_enter Tryd.func47, Tryd.ntmps47
  go_wp2
  go_loopw [7, 13] (fun c i wr => ∃ (k : Nat) (cr : Int) (zk : List Int), k ≤ n ∧ i = .int .i64 k ∧ c = .int .u64 cr ∧ 0 ≤ cr ∧ cr < 4294967296 ∧ zk.length = cap ∧ Limbs zk ∧ Row wr b zk ∧ Only b w wr ∧ (∀ t, k ≤ t → lz zk t = lz zs t) ∧ vl zk k + cr * pw k = vl zs k * f + p) (fun _ i _ => n - (intOf i).toNat)
  case atStart => exact ⟨0, p, zs, Nat.zero_le _, rfl, rfl, hp0, hp1, hzl, hlz, hr, Only.refl _ _, fun _ _ => rfl, by simp [vl, pw]⟩
  case round =>
   obtain ⟨k, cr, zk, hk, rfl, rfl, hc0, hc1, hkl, hkL, hrow, honly, hsame, hv⟩ := hrel
   have HV := hide hv
   have HS := hide hsame
   clear hv hsame
   by_cases hkn : k < n
   ·have q := hrow.rd hkL (off := 0) (len := n) (cap := cap) (by omega) hle hm
    have hcell := hrow.cell (i := k) (by omega)
    have hfr := hrow.frozen k
    go_wp2_with fail
    refine (limb_any q (k : Int) (by omega) (by omega)).mono ?_
    rintro e w' ⟨rfl, rfl⟩
    rw [Int.toNat_natCast, List.drop_zero, lz_take, if_pos hkn]
    have B1 := lz_bd hkL k
    have B4 := mul_bd B1.1 B1.2 hf0 hf1
    have HN : Hid (vl (zk.set k ((cr + lz zk k * f) % 4294967296)) (k + 1) + ((cr + lz zk k * f) / 4294967296) * pw (k + 1) = vl zs (k + 1) * f + p) := by
     show _ = _
     rw [carry_step (by omega) (unhide HV), vl_succ, (unhide HS) k (Nat.le_refl _), Int.add_mul, Int.mul_right_comm]
     omega
    clear HV q
    go_wp2_with fail
    rw [mask64 _ (by omega) (by omega), Int.emod_emod_of_dvd _ (Int.dvd_refl _)]
    exact ⟨⟨k + 1, _, _, by omega, by go_num, rfl, by omega, by omega, by rw [List.length_set]; exact hkl, hkL.set k (by omega) (by omega), hrow.set k _, honly.trans (Only.set b k wr _), fun t ht => by rw [lz_set _ _ _ _ (by omega), if_neg (by omega)]; exact (unhide HS) t (by omega), unhide HN⟩, by simp [intOf]; omega⟩
   ·obtain rfl : k = n := by omega
    go_wp2_with fail
    go_ret
    refine ⟨zk.take k, cr, rfl, hc0, hc1, ⟨hB.trans (honly.below hb), .inr ⟨b, zk, rfl, hb, hrow, hkL, hkl, hle, hm, rfl⟩⟩, ?_, honly.size, fun j hj => honly.block j (fun e => hj (by simp [blk, e]))⟩
    rw [val_take _ _ (by omega), val_take _ _ (by omega)]
    exact unhide HV

theorem bt_extract (s : ByteArray) (a b i : Nat) (hb : b ≤ s.size) (hi : a + i < b) : bt (s.extract a b) i = bt s (a + i) := by
 unfold bt
 have e : (s.extract a b).data = s.data.extract a b := by simp [ByteArray.data_extract]
 rw [e]
 have h2 : b ≤ s.data.size := hb
 have e2 : (s.data.extract a b).toList.getD i 0 = s.data.toList.getD (a + i) 0 := by
  simp only [List.getD_eq_getElem?_getD, Array.toList_extract, List.extract_eq_take_drop, List.getElem?_take, List.getElem?_drop]
  rw [if_pos (by omega)]
 rw [e2]

theorem val_snoc (Y : List Int) (cr : Int) : val (Y ++ [cr]) = val Y + cr * pw Y.length := by
 unfold val
 rw [List.length_append, List.length_singleton, vl_succ]
 have e1 : vl (Y ++ [cr]) Y.length = vl Y Y.length := vl_congr (fun i hi => by simp [lz, List.getD, List.getElem?_append_left hi])
 rw [e1, lz_snoc]

theorem dr_first (s : ByteArray) (m c : Nat) (h : m = 0 ∨ c = 9) : dr s 0 (m + c) = dr s 0 m * 1000000000 + dr s m c := by
 rw [dr_add, Nat.zero_add]
 rcases h with rfl | rfl
 ·simp [dr]
 ·rfl

theorem dr_pw (s : ByteArray) (k : Nat) (h : ∀ i, i < k → bt s (0 + i) ≤ 57) : (dr s 0 k : Int) < pw k := by
 have h1 := dr_lt s 0 k h
 have h2 : ((10 ^ k : Nat) : Int) ≤ pw k := by
  clear h h1
  induction k with
  | zero => decide
  | succ k ih => rw [Nat.pow_succ, pw_succ]; omega
 omega

theorem canon_len {zs : List Int} (h : Canon zs) {k : Nat} (hv : val zs < pw k) : zs.length ≤ k := by
 rcases Nat.lt_or_ge k zs.length with h1 | h1
 ·have h2 := canon_low h (by omega)
  have h3 : pw k ≤ pw (zs.length - 1) := pw_mono (by omega)
  omega
 ·exact h1

set_option maxRecDepth 100000 in
set_option maxHeartbeats 1600000 in
theorem parse_no (s : ByteArray) (w : World) (hs : s.size ≤ 9223372036854775807) (hok : ¬ okText s) :
  Calls Tryd.prog 43 #[.string s] w fun e w' => e = .returned (.tuple #[.slice none 0 0, .int .i64 12]) ∧ w = w' := by
 have HOK := hide hok
 clear hok
 go_enter Tryd.func43, Tryd.ntmps43
 go_wp2_with fail
 refine (isText_no s w hs (unhide HOK)).mono ?_
 rintro e w' ⟨rfl, rfl⟩
 go_wp2_with fail
 go_ret2
 exact ⟨rfl, rfl⟩

set_option maxRecDepth 100000 in
set_option maxHeartbeats 1600000 in
theorem parse_yes (s : ByteArray) (w : World) (hs : s.size ≤ 1099511627776) (hok : okText s) :
  Calls Tryd.prog 43 #[.string s] w fun e w' => ∃ ad len cap zs, e = .returned (.tuple #[.slice ad len cap, .int .i64 0]) ∧ Out w w' ad len cap zs ∧ Canon zs ∧ val zs = (dr s 0 s.size : Int) ∧ len ≤ s.size := by
 have HOK := hide hok
 clear hok
 go_enter Tryd.func43, Tryd.ntmps43
 go_wp2_with fail
 refine (isText_yes s w (by omega) (unhide HOK)).mono ?_
 rintro e w' ⟨rfl, rfl⟩
 go_wp2_with fail
 go_loopw [4, 5] (fun v i wr => ∃ (k : Nat) (ad : Option Addr) (n cap : Nat) (zs : List Int), k ≤ s.size ∧ i = .int .i64 k ∧ v = .slice ad n cap ∧ Out w wr ad n cap zs ∧ Canon zs ∧ val zs = (dr s 0 k : Int) ∧ n ≤ k ∧ (k = 0 ∨ (s.size - k) % 9 = 0)) (fun _ i _ => s.size - (intOf i).toNat)
 case atStart => exact ⟨0, none, 0, 0, [], Nat.zero_le _, rfl, rfl, out_none w, canon_nil, rfl, Nat.le_refl _, .inl rfl⟩
 case round =>
  obtain ⟨k, ad, n, cap, zs, hk, rfl, rfl, ho, hc, hv, hn, hmod⟩ := hrel
  have HV := hide hv
  have HM := hide hmod
  clear hv hmod
  by_cases hkl : k < s.size
  ·obtain ⟨c, hc9⟩ : ∃ c, c = (s.size - k - 1) % 9 + 1 := ⟨_, rfl⟩
   have hcb : 1 ≤ c ∧ c ≤ 9 ∧ k + c ≤ s.size := by omega
   have hto : Hid ((k : Int) + ((s.size : Int) - (k : Int) - 1) % 9 + 1 = ((k + c : Nat) : Int)) := by
    show _ = _
    omega
   have hfc := hide (show k = 0 ∨ c = 9 from by
    rcases unhide HM with h | h
    ·exact .inl h
    ·exact .inr (by omega))
   have hmod' := hide (show (s.size - (k + c)) % 9 = 0 from by omega)
   have hsl : ∀ u : World, (Instr.slice 9 (.string s) (some (.int .i64 (k : Int))) (some (.int .i64 ((k : Int) + ((s.size : Int) - (k : Int) - 1) % 9 + 1))) none).run Tryd.prog u = .ok (.string (s.extract k (k + c))) u := fun u => by
    have := run_slice_string (P := Tryd.prog) u 9 s .i64 .i64 (k : Int) ((k : Int) + ((s.size : Int) - (k : Int) - 1) % 9 + 1) Tryd.underlying9 (by omega) (by omega) (by omega)
    rw [this, unhide hto, Int.toNat_natCast, Int.toNat_natCast]
   have hsx : (s.extract k (k + c)).size = c := by rw [ByteArray.size_extract]; omega
   have hdg : ∀ i, i < (s.extract k (k + c)).size → 48 ≤ bt (s.extract k (k + c)) i ∧ bt (s.extract k (k + c)) i ≤ 57 := fun i hi => by
    rw [bt_extract s k (k + c) i (by omega) (by omega)]
    exact (unhide HOK).2.2 (k + i) (by omega)
   have hdx : Hid (dr (s.extract k (k + c)) 0 (s.extract k (k + c)).size = dr s k c) := by
    show _ = _
    rw [hsx]
    exact dr_congr (fun i hi => by rw [Nat.zero_add, bt_extract s k (k + c) i (by omega) (by omega)])
   have hdl : dr s k c < 10 ^ c := dr_lt s k c (fun i hi => ((unhide HOK).2.2 (k + i) (by omega)).2)
   have hdb : dr s k c < 1000000000 := by
    have : 10 ^ c ≤ 10 ^ 9 := Nat.pow_le_pow_right (by decide) (by omega)
    simp at this
    omega
   have hval := hide (dr_first s k c (unhide hfc))
   have hpwc := hide (dr_pw s (k + c) (fun i hi => ((unhide HOK).2.2 (0 + i) (by omega)).2))
   have hsx9 : (s.extract k (k + c)).size ≤ 9 := by omega
   have HDG := hide hdg
   clear hc9 hdl hsx hdg
   go_wp2_with fail
   refine (value_any _ wr hsx9 (unhide HDG)).mono ?_
   rintro e w' ⟨rfl, rfl⟩
   rw [unhide hdx]
   generalize hgv : dr s k c = g at *
   have HG := hide hgv
   clear hgv
   go_wp2_with fail
   refine (times_out (f := 1000000000) (p := (g : Int)) ho (by omega) (by decide) (by decide) (by omega) (by omega)).mono ?_
   rintro e w2 ⟨Y, cr, rfl, hcr0, hcr1, hoY, hvY, hsz2, hfr2⟩
   have HVY := hide hvY
   have hYl := hide hoY.rd.1
   clear hvY hsz2 hfr2 hsl
   go_wp2_with (at_builtin; refine wpList_append_run rfl _ _ 40 rfl _ _ rfl rfl _ (run_append_one hoY _ cr hcr0 hcr1 (by omega)) ?_; rintro v' w3 ⟨ad', cap', rfl, ho3, hfr3, hsz3, hbk3⟩)
   clear hfr3 hbk3 hsz3
   refine (bare_out ho3).mono ?_
   rintro e w4 ⟨rfl, rfl⟩
   obtain ⟨ho4, hc4⟩ := ho3.trimmed
   have hv4 : Hid (val (trim (Y ++ [cr])) = (dr s 0 (k + c) : Int)) := by
    show _ = _
    have e1 := unhide HVY
    have e2 := unhide HV
    have e3 := unhide hval
    rw [val_trim, val_snoc, unhide hYl, e1, e2]
    omega
   have hn4 : Hid (tl (Y ++ [cr]) (n + 1) ≤ k + c) := by
    show _ ≤ _
    rw [← ho4.rd.1]
    exact canon_len hc4 (by rw [unhide hv4]; exact unhide hpwc)
   have HO4 := hide ho4
   have HC4 := hide hc4
   clear ho3 ho4 hc4
   go_wp2_with fail
   go_roundw
   case rel => exact ⟨k + c, _, _, _, _, by omega, by rw [← unhide hto], rfl, unhide HO4, unhide HC4, unhide hv4, unhide hn4, .inr (unhide hmod')⟩
   case measure => simp [intOf]; omega
  ·obtain rfl : k = s.size := by omega
   go_wp2_with fail
   go_ret2
   exact ⟨_, _, _, _, rfl, ho, hc, unhide HV, hn⟩
end Go.Proofs.YtcgdhbgjmapoeaaDoor

namespace Go.Proofs.YtcgdhbgjmapoeaaDoor
open Go.RowKit

theorem below_alloc (w : World) (o : Obj) : Below w.heap.size w (w.alloc o) := (Below.refl _ _).alloc (Nat.le_refl _) _

end Go.Proofs.YtcgdhbgjmapoeaaDoor

namespace Go.Proofs.YtcgdhbgjmapoeaaDoor
open Go.RowKit

theorem below_alloc' {w0 w : World} (h : Below w0.heap.size w0 w) (o : Obj) : Below w0.heap.size w0 (w.alloc o) := h.alloc h.size o

/-- the same, of any base: what was there at w1 is there at w2 -/
theorem grow_alloc {w0 w : World} (h : Below w0.heap.size w0 w) (o : Obj) : Below w0.heap.size w0 (w.alloc o) := below_alloc' h o
theorem grow_drew {w0 w : World} (h : Below w0.heap.size w0 w) : Below w0.heap.size w0 w.drew := Below.drew h
theorem grow_drewN {w0 w : World} (h : Below w0.heap.size w0 w) (n : Nat) : Below w0.heap.size w0 (w.drewN n) := Below.trans h (below_drewN _ _ _)
theorem grow_step {w0 w1 w2 : World} (k : Below w1.heap.size w1 w2) (h : Below w0.heap.size w0 w1) : Below w0.heap.size w0 w2 := h.trans (k.mono h.size)
end Go.Proofs.YtcgdhbgjmapoeaaDoor

namespace Go.Proofs.YtcgdhbgjmapoeaaDoor
open Go.RowKit

/-- what a byte is: a blank, a digit, a letter, an underscore, another -/
def cls (b : Int) : Int := if b = 32 ∨ b = 9 ∨ b = 10 ∨ b = 13 then 0 else if 48 ≤ b ∧ b ≤ 57 then 1 else if (97 ≤ b ∧ b ≤ 122) ∨ (65 ≤ b ∧ b ≤ 90) then 2 else if b = 95 then 3 else 4

set_option maxRecDepth 100000 in
set_option maxHeartbeats 1600000 in
theorem lookAt_n (b : Int) (h0 : 0 ≤ b) (h1 : b < 256) (w : World) :
  Calls Tryd.prog 28 #[.int .u8 b] w fun e w' => e = .returned (.int .i64 (cls b)) ∧ w = w' := by
 by_cases hb : b = 32 ∨ b = 9 ∨ b = 10 ∨ b = 13
 ·rcases hb with rfl | rfl | rfl | rfl
  all_goals (
   go_enter Tryd.func28, Tryd.ntmps28
   go_wp2
   go_ret
   exact ⟨rfl, rfl⟩)
 ·have e1 : (b == 32) = false := by rw [beq_eq_false_iff_ne]; omega
  have e2 : (b == 9) = false := by rw [beq_eq_false_iff_ne]; omega
  have e3 : (b == 10) = false := by rw [beq_eq_false_iff_ne]; omega
  have e4 : (b == 13) = false := by rw [beq_eq_false_iff_ne]; omega
  by_cases hd : 48 ≤ b ∧ b ≤ 57
  ·obtain ⟨d1, d2⟩ := hd
   have HC : Hid (cls b = 1) := by show _ = _; unfold cls; rw [if_neg hb, if_pos ⟨d1, d2⟩]
   clear hb
   go_enter Tryd.func28, Tryd.ntmps28
   go_wp2
   go_ret
   exact ⟨ret_int HC.out.symm, rfl⟩
  ·by_cases hl : 97 ≤ b ∧ b ≤ 122
   ·obtain ⟨d1, d2⟩ := hl
    have HC : Hid (cls b = 2) := by show _ = _; unfold cls; rw [if_neg hb, if_neg hd, if_pos (.inl ⟨d1, d2⟩)]
    have d3 : ¬ b ≤ 57 := by omega
    have d4 : 48 ≤ b := by omega
    clear hb hd
    go_enter Tryd.func28, Tryd.ntmps28
    go_wp2
    go_ret
    exact ⟨ret_int HC.out.symm, rfl⟩
   ·by_cases hu : 65 ≤ b ∧ b ≤ 90
    ·obtain ⟨d1, d2⟩ := hu
     have HC : Hid (cls b = 2) := by show _ = _; unfold cls; rw [if_neg hb, if_neg hd, if_pos (.inr ⟨d1, d2⟩)]
     have d3 : ¬ b ≤ 57 := by omega
     have d4 : 48 ≤ b := by omega
     have d5 : ¬ 97 ≤ b := by omega
     clear hb hd hl
     go_enter Tryd.func28, Tryd.ntmps28
     go_wp2
     go_ret
     exact ⟨ret_int HC.out.symm, rfl⟩
    ·by_cases h9 : b = 95
     ·subst h9
      go_enter Tryd.func28, Tryd.ntmps28
      go_wp2
      go_ret
      exact ⟨rfl, rfl⟩
     ·have HC : Hid (cls b = 4) := by show _ = _; unfold cls; rw [if_neg hb, if_neg hd, if_neg (by omega), if_neg h9]
      have e5 : (b == 95) = false := by rw [beq_eq_false_iff_ne]; exact h9
      rcases (show b < 48 ∨ (57 < b ∧ b < 65) ∨ (90 < b ∧ b < 97) ∨ 122 < b from by omega) with q | ⟨q, q'⟩ | ⟨q, q'⟩ | q
      all_goals (
       clear hb hd hl hu
       go_enter Tryd.func28, Tryd.ntmps28
       go_wp2
       go_ret
       exact ⟨ret_int HC.out.symm, rfl⟩)

/-- may a byte stand in a row? -/
def inRow (b : Int) : Bool := decide (cls b = 1 ∨ cls b = 2 ∨ cls b = 3)
theorem cls_bd (b : Int) : 0 ≤ cls b ∧ cls b ≤ 4 := by unfold cls; split <;> (try split) <;> (try split) <;> (try split) <;> decide

set_option maxRecDepth 100000 in
set_option maxHeartbeats 1600000 in
theorem isRow_n (b : Int) (h0 : 0 ≤ b) (h1 : b < 256) (w : World) :
  Calls Tryd.prog 38 #[.int .u8 b] w fun e w' => e = .returned (.bool (inRow b)) ∧ w = w' := by
 have hc := cls_bd b
 go_enter Tryd.func38, Tryd.ntmps38
 go_wp2_with fail
 refine (lookAt_n b h0 h1 w).mono ?_
 rintro e w' ⟨rfl, rfl⟩
 have HR : Hid (inRow b = decide (cls b = 1 ∨ cls b = 2 ∨ cls b = 3)) := rfl
 generalize cls b = c at *
 rcases (show c = 0 ∨ c = 1 ∨ c = 2 ∨ c = 3 ∨ c = 4 from by omega) with rfl | rfl | rfl | rfl | rfl
 all_goals (
  go_wp2
  go_ret
  exact ⟨ret_bool (by rw [HR.out]; decide), rfl⟩)
theorem cls_digit {b : Int} (h : cls b = 1) : 48 ≤ b ∧ b ≤ 57 := by
 unfold cls at h
 split at h
 ·cases h
 ·split at h
  ·assumption
  ·split at h
   ·cases h
   ·split at h <;> cases h

theorem extract_all (s : ByteArray) : s.extract 0 s.size = s := by
 apply ByteArray.ext
 rw [ByteArray.data_extract]
 exact Array.extract_size
/-- the first k bytes stand in a row, and no more -/
def RowEnd (s : ByteArray) (k : Nat) : Prop := k ≤ s.size ∧ (∀ j, j < k → inRow (bt s j) = true) ∧ (k < s.size → inRow (bt s k) = false)
theorem RowEnd.unique {s : ByteArray} {k m : Nat} (h : RowEnd s k) (h' : RowEnd s m) : k = m := by
 rcases Nat.lt_trichotomy k m with hlt | rfl | hlt
 ·have h1 := h.2.2 (by have := h'.1; omega)
  have h2 := h'.2.1 k hlt
  rw [h1] at h2; cases h2
 ·rfl
 ·have h1 := h'.2.2 (by have := h.1; omega)
  have h2 := h.2.1 m hlt
  rw [h1] at h2; cases h2

set_option maxRecDepth 100000 in
set_option maxHeartbeats 1600000 in
theorem rowOf_n (s : ByteArray) (w : World) (hs : s.size ≤ 1099511627776) :
  Calls Tryd.prog 29 #[.string s] w fun e w' => ∃ k, RowEnd s k ∧ e = .returned (.string (s.extract 0 k)) ∧ w = w' := by
 go_enter Tryd.func29, Tryd.ntmps29
 go_wp2_with fail
 go_loop [3] (fun i => ∃ k : Nat, k ≤ s.size ∧ i = .int .i64 k ∧ Hid (∀ j, j < k → inRow (bt s j) = true)) (fun i => s.size - (intOf i).toNat)
 case atStart => exact ⟨0, Nat.zero_le _, rfl, fun j hj => absurd hj (by omega)⟩
 case round =>
  obtain ⟨k, hk, rfl, HJ⟩ := hrel
  by_cases hkl : k < s.size
  ·have hb := bt_lt s k
   have he := bt_eq s k hkl
   go_wp2_with fail
   refine (isRow_n ((s[k]'hkl).toNat : Int) (by omega) (by omega) w).mono ?_
   rintro e w' ⟨rfl, rfl⟩
   rw [← he]
   cases hr : inRow (bt s k)
   ·have HE : Hid (RowEnd s k) := ⟨hk, HJ.out, fun _ => hr⟩
    clear hr HJ
    go_wp2_with fail
    go_ret
    exact ⟨k, HE.out, rfl, rfl⟩
   ·have HE : Hid (∀ j, j < k + 1 → inRow (bt s j) = true) := by
     show ∀ _, _
     intro j hj
     by_cases e : j = k
     ·rw [e]; exact hr
     ·exact HJ.out j (by omega)
    clear hr HJ
    go_wp2_with fail
    exact ⟨⟨k + 1, by omega, by go_num, HE⟩, by simp [intOf]; omega⟩
  ·obtain rfl : k = s.size := by omega
   have HE : Hid (RowEnd s s.size) := ⟨Nat.le_refl _, HJ.out, fun h => absurd h (by omega)⟩
   go_wp2_with fail
   go_ret
   exact ⟨_, HE.out, by rw [extract_all]; rfl, rfl⟩

/-- from place a on blanks stand up to place k, and no more -/
def BlankEnd (s : ByteArray) (a k : Nat) : Prop := a ≤ k ∧ k ≤ s.size ∧ (∀ j, a ≤ j → j < k → cls (bt s j) = 0) ∧ (k < s.size → cls (bt s k) ≠ 0)
theorem BlankEnd.unique {s : ByteArray} {a k m : Nat} (h : BlankEnd s a k) (h' : BlankEnd s a m) : k = m := by
 rcases Nat.lt_trichotomy k m with hlt | rfl | hlt
 ·exact absurd (h'.2.2.1 k h.1 hlt) (h.2.2.2 (by have := h'.2.1; omega))
 ·rfl
 ·exact absurd (h.2.2.1 m h'.1 hlt) (h'.2.2.2 (by have := h.2.1; omega))

set_option maxRecDepth 100000 in
set_option maxHeartbeats 1600000 in
theorem passBlanks_n (s : ByteArray) (a : Nat) (w : World) (hs : s.size ≤ 1099511627776) (ha : a ≤ s.size) :
  Calls Tryd.prog 34 #[.string s, .int .i64 a] w fun e w' => ∃ k : Nat, BlankEnd s a k ∧ e = .returned (.int .i64 k) ∧ w = w' := by
 go_enter Tryd.func34, Tryd.ntmps34
 go_wp2_with fail
 go_loop [1] (fun i => ∃ k : Nat, a ≤ k ∧ k ≤ s.size ∧ i = .int .i64 k ∧ Hid (∀ j, a ≤ j → j < k → cls (bt s j) = 0)) (fun i => s.size - (intOf i).toNat)
 case atStart => exact ⟨a, Nat.le_refl _, ha, rfl, fun j hj hj' => absurd hj (by omega)⟩
 case round =>
  obtain ⟨k, hak, hk, rfl, HJ⟩ := hrel
  by_cases hkl : k < s.size
  ·have hb := bt_lt s k
   have he := bt_eq s k hkl
   go_wp2_with fail
   refine (lookAt_n ((s[k]'hkl).toNat : Int) (by omega) (by omega) w).mono ?_
   rintro e w' ⟨rfl, rfl⟩
   rw [← he]
   have hcb := cls_bd (bt s k)
   by_cases hr : cls (bt s k) = 0
   ·have HE : Hid (∀ j, a ≤ j → j < k + 1 → cls (bt s j) = 0) := by
     show ∀ _, _
     intro j hj hj'
     by_cases e : j = k
     ·rw [e]; exact hr
     ·exact HJ.out j hj (by omega)
    rw [hr]
    clear hr HJ hcb
    go_wp2_with fail
    exact ⟨⟨k + 1, by omega, by omega, by go_num, HE⟩, by simp [intOf]; omega⟩
   ·have HE : Hid (BlankEnd s a k) := ⟨hak, hk, HJ.out, fun _ => hr⟩
    have hr2 : (cls (bt s k) == 0) = false := by rw [beq_eq_false_iff_ne]; exact hr
    clear HJ hr
    generalize cls (bt s k) = c at *
    go_wp2_with fail
    go_ret
    exact ⟨k, HE.out, rfl, rfl⟩
  ·obtain rfl : k = s.size := by omega
   have HE : Hid (BlankEnd s a s.size) := ⟨hak, Nat.le_refl _, HJ.out, fun h => absurd h (by omega)⟩
   go_wp2_with fail
   go_ret
   exact ⟨_, HE.out, rfl, rfl⟩
end Go.Proofs.YtcgdhbgjmapoeaaDoor

namespace Go.Proofs.YtcgdhbgjmapoeaaDoor
open Go.RowKit

/-- is a text one of the ten words? -/
def tenB (s : ByteArray) : Bool := (s.toList == [97, 110, 100]) || (s.toList == [111, 114]) || (s.toList == [110, 111, 116]) || (s.toList == [105, 109, 112, 108, 105, 101, 115]) || (s.toList == [105, 102, 102]) || (s.toList == [115, 111, 109, 101]) || (s.toList == [97, 108, 108]) || (s.toList == [116, 114, 117, 101]) || (s.toList == [102, 97, 108, 115, 101]) || (s.toList == [100, 105, 118, 105, 100, 101, 115])
/-- the kind of a row that begins with a letter -/
def kd (s : ByteArray) : Int := if tenB s then 3 else if 24 < s.size then 0 else 2

set_option maxRecDepth 100000 in
set_option maxHeartbeats 1600000 in
theorem kindOf_n (s : ByteArray) (w : World) (hs : s.size ≤ 1099511627776) :
  Calls Tryd.prog 30 #[.string s] w fun e w' => e = .returned (.int .i64 (kd s)) ∧ w = w' := by
 have HK : Hid (kd s = if tenB s then 3 else if 24 < s.size then 0 else 2) := rfl
 have HT : Hid (tenB s = ((s.toList == [97, 110, 100]) || (s.toList == [111, 114]) || (s.toList == [110, 111, 116]) || (s.toList == [105, 109, 112, 108, 105, 101, 115]) || (s.toList == [105, 102, 102]) || (s.toList == [115, 111, 109, 101]) || (s.toList == [97, 108, 108]) || (s.toList == [116, 114, 117, 101]) || (s.toList == [102, 97, 108, 115, 101]) || (s.toList == [100, 105, 118, 105, 100, 101, 115]))) := rfl
 cases h0 : (s.toList == [97, 110, 100])
 case true =>
  have HC : Hid (kd s = 3) := by show _ = _; rw [HK.out, HT.out, h0]; simp
  clear HK HT
  go_enter Tryd.func30, Tryd.ntmps30
  go_wp2
  go_ret
  exact ⟨ret_int HC.out.symm, rfl⟩
 cases h1 : (s.toList == [111, 114])
 case true =>
  have HC : Hid (kd s = 3) := by show _ = _; rw [HK.out, HT.out, h0, h1]; simp
  clear HK HT
  go_enter Tryd.func30, Tryd.ntmps30
  go_wp2
  go_ret
  exact ⟨ret_int HC.out.symm, rfl⟩
 cases h2 : (s.toList == [110, 111, 116])
 case true =>
  have HC : Hid (kd s = 3) := by show _ = _; rw [HK.out, HT.out, h0, h1, h2]; simp
  clear HK HT
  go_enter Tryd.func30, Tryd.ntmps30
  go_wp2
  go_ret
  exact ⟨ret_int HC.out.symm, rfl⟩
 cases h3 : (s.toList == [105, 109, 112, 108, 105, 101, 115])
 case true =>
  have HC : Hid (kd s = 3) := by show _ = _; rw [HK.out, HT.out, h0, h1, h2, h3]; simp
  clear HK HT
  go_enter Tryd.func30, Tryd.ntmps30
  go_wp2
  go_ret
  exact ⟨ret_int HC.out.symm, rfl⟩
 cases h4 : (s.toList == [105, 102, 102])
 case true =>
  have HC : Hid (kd s = 3) := by show _ = _; rw [HK.out, HT.out, h0, h1, h2, h3, h4]; simp
  clear HK HT
  go_enter Tryd.func30, Tryd.ntmps30
  go_wp2
  go_ret
  exact ⟨ret_int HC.out.symm, rfl⟩
 cases h5 : (s.toList == [115, 111, 109, 101])
 case true =>
  have HC : Hid (kd s = 3) := by show _ = _; rw [HK.out, HT.out, h0, h1, h2, h3, h4, h5]; simp
  clear HK HT
  go_enter Tryd.func30, Tryd.ntmps30
  go_wp2
  go_ret
  exact ⟨ret_int HC.out.symm, rfl⟩
 cases h6 : (s.toList == [97, 108, 108])
 case true =>
  have HC : Hid (kd s = 3) := by show _ = _; rw [HK.out, HT.out, h0, h1, h2, h3, h4, h5, h6]; simp
  clear HK HT
  go_enter Tryd.func30, Tryd.ntmps30
  go_wp2
  go_ret
  exact ⟨ret_int HC.out.symm, rfl⟩
 cases h7 : (s.toList == [116, 114, 117, 101])
 case true =>
  have HC : Hid (kd s = 3) := by show _ = _; rw [HK.out, HT.out, h0, h1, h2, h3, h4, h5, h6, h7]; simp
  clear HK HT
  go_enter Tryd.func30, Tryd.ntmps30
  go_wp2
  go_ret
  exact ⟨ret_int HC.out.symm, rfl⟩
 cases h8 : (s.toList == [102, 97, 108, 115, 101])
 case true =>
  have HC : Hid (kd s = 3) := by show _ = _; rw [HK.out, HT.out, h0, h1, h2, h3, h4, h5, h6, h7, h8]; simp
  clear HK HT
  go_enter Tryd.func30, Tryd.ntmps30
  go_wp2
  go_ret
  exact ⟨ret_int HC.out.symm, rfl⟩
 cases h9 : (s.toList == [100, 105, 118, 105, 100, 101, 115])
 case true =>
  have HC : Hid (kd s = 3) := by show _ = _; rw [HK.out, HT.out, h0, h1, h2, h3, h4, h5, h6, h7, h8, h9]; simp
  clear HK HT
  go_enter Tryd.func30, Tryd.ntmps30
  go_wp2
  go_ret
  exact ⟨ret_int HC.out.symm, rfl⟩
 have HC : Hid (kd s = if 24 < s.size then 0 else 2) := by show _ = _; rw [HK.out, HT.out, h0, h1, h2, h3, h4, h5, h6, h7, h8, h9]; simp
 clear HK HT
 by_cases hl : 24 < s.size
 ·rw [if_pos hl] at HC
  go_enter Tryd.func30, Tryd.ntmps30
  go_wp2
  go_ret
  exact ⟨ret_int HC.out.symm, rfl⟩
 ·rw [if_neg hl] at HC
  go_enter Tryd.func30, Tryd.ntmps30
  go_wp2
  go_ret
  exact ⟨ret_int HC.out.symm, rfl⟩
end Go.Proofs.YtcgdhbgjmapoeaaDoor

namespace Go.Proofs.YtcgdhbgjmapoeaaDoor
open Go.RowKit

theorem results_ct' {P : Program} {fn : Func} {p1 t3 : Tmp} {ty : TypeId} (h : fn.results = #[.cell p1 ty, .tmp t3]) (tmps : Array Value) (w : World) (g1 : Nat) (t : TypeId) (cs1 : Array Value) (fr : Nat × Nat) (d : TypeDesc)
  (hp1 : tmps.getD p1 undef = .pointer (some ⟨g1, 0, none⟩)) (hg1 : w.heap[g1]? = some (.cells cs1 t fr))
  (hu : P.underlying ty = some d) (hd : (match d with | .struct _ | .array _ _ => true | _ => false) = true) (hi1 : (P.info? ty).map (·.size) = some cs1.size) :
  (results fn tmps).run P w = .ok (.tuple #[.agg cs1, tmps.getD t3 undef]) w := by
 have hp1' : tmps[p1]?.getD undef = .pointer (some ⟨g1, 0, none⟩) := by simpa using hp1
 simp [results, h, hp1', asAddr, run_loadVar_row w g1 t ty cs1 fr d hg1 hu hd hi1]

set_option maxRecDepth 100000 in
set_option maxHeartbeats 1600000 in
theorem plain_yes (k : Int) (s : ByteArray) (a : Nat) (w : World) (hk0 : 0 < k) (hs0 : 0 < s.size) :
  Calls Tryd.prog 40 #[.int .i64 k, .string s, .int .i64 a] w fun e w' => e = .returned (.tuple #[.agg #[.int .i64 k, .string s, .bool false, .slice none 0 0, .int .i64 a], .int .i64 0]) ∧ Below w.heap.size w w' := by
 have hne := ne_empty hs0
 have hk1 : (k == 0) = false := by rw [beq_eq_false_iff_ne]; omega
 go_enter Tryd.func40, Tryd.ntmps40
 go_wp2
 refine bodyPost_ret (results_ct' rfl _ _ w.heap.size 44 _ (0, 0) _ rfl (heap_alloc_new w _) Tryd.underlying44 rfl (by kernel_rfl)) rfl ?_
 exact ⟨by simp, below_alloc _ _⟩

set_option maxRecDepth 100000 in
set_option maxHeartbeats 1600000 in
theorem plain_no (k : Int) (s : ByteArray) (a : Nat) (w : World) (hk : k = 0 ∨ s.size = 0) :
  Calls Tryd.prog 40 #[.int .i64 k, .string s, .int .i64 a] w fun e w' => e = .returned (.tuple #[.agg #[.int .i64 0, .string ⟨#[]⟩, .bool false, .slice none 0 0, .int .i64 0], .int .i64 30]) ∧ Below w.heap.size w w' := by
 by_cases h0 : k = 0
 ·subst h0
  go_enter Tryd.func40, Tryd.ntmps40
  go_wp2
  refine bodyPost_ret (results_ct' rfl _ _ w.heap.size 44 _ (0, 0) _ rfl (heap_alloc_new w _) Tryd.underlying44 rfl (by kernel_rfl)) rfl ?_
  exact ⟨by simp, below_alloc _ _⟩
 ·have hne := is_empty (show s.size = 0 from by omega)
  have hk1 : (k == 0) = false := by rw [beq_eq_false_iff_ne]; omega
  clear hk
  go_enter Tryd.func40, Tryd.ntmps40
  go_wp2
  refine bodyPost_ret (results_ct' rfl _ _ w.heap.size 44 _ (0, 0) _ rfl (heap_alloc_new w _) Tryd.underlying44 rfl (by kernel_rfl)) rfl ?_
  exact ⟨by simp, below_alloc _ _⟩

/-- the block of a word -/
def TB (w : World) (b : Nat) (v0 v1 v2 v3 v4 : Value) : Prop := w.heap[b]? = some (.cells #[v0, v1, v2, v3, v4] 44 (0, 0))
theorem TB.c0 {w : World} {b : Nat} {v0 v1 v2 v3 v4 : Value} (h : TB w b v0 v1 v2 v3 v4) : w.cell? ⟨b, 0, none⟩ = some v0 := cell_of_row w b 0 _ _ (0, 0) h
theorem TB.c1 {w : World} {b : Nat} {v0 v1 v2 v3 v4 : Value} (h : TB w b v0 v1 v2 v3 v4) : w.cell? ⟨b, 1, none⟩ = some v1 := cell_of_row w b 1 _ _ (0, 0) h
theorem TB.c2 {w : World} {b : Nat} {v0 v1 v2 v3 v4 : Value} (h : TB w b v0 v1 v2 v3 v4) : w.cell? ⟨b, 2, none⟩ = some v2 := cell_of_row w b 2 _ _ (0, 0) h
theorem TB.c3 {w : World} {b : Nat} {v0 v1 v2 v3 v4 : Value} (h : TB w b v0 v1 v2 v3 v4) : w.cell? ⟨b, 3, none⟩ = some v3 := cell_of_row w b 3 _ _ (0, 0) h
theorem TB.c4 {w : World} {b : Nat} {v0 v1 v2 v3 v4 : Value} (h : TB w b v0 v1 v2 v3 v4) : w.cell? ⟨b, 4, none⟩ = some v4 := cell_of_row w b 4 _ _ (0, 0) h
theorem TB.f {w : World} {b : Nat} {v0 v1 v2 v3 v4 : Value} (h : TB w b v0 v1 v2 v3 v4) (i : Nat) : w.frozen? ⟨b, i, none⟩ = false := frozen_of_row w b i _ _ h
theorem TB.lt {w : World} {b : Nat} {v0 v1 v2 v3 v4 : Value} (h : TB w b v0 v1 v2 v3 v4) : b < w.heap.size := by
 by_cases hb : b < w.heap.size
 ·exact hb
 ·rw [TB, Array.getElem?_eq_none (by omega)] at h; cases h
theorem TB.below {w w' : World} {b : Nat} {v0 v1 v2 v3 v4 : Value} (h : TB w b v0 v1 v2 v3 v4) (hb : Below w.heap.size w w') : TB w' b v0 v1 v2 v3 v4 := (hb.block b h.lt).trans h
theorem tb_new (w : World) (v0 v1 v2 v3 v4 : Value) : TB (w.alloc (.cells #[v0, v1, v2, v3, v4] 44)) w.heap.size v0 v1 v2 v3 v4 := heap_alloc_new w _
/-- a whole word is stored -/
def tokSet (w : World) (b : Nat) (u0 u1 u2 u3 u4 : Value) : World := ((((w.setCell ⟨b, 0, none⟩ u0).setCell ⟨b, 1, none⟩ u1).setCell ⟨b, 2, none⟩ u2).setCell ⟨b, 3, none⟩ u3).setCell ⟨b, 4, none⟩ u4
theorem tb_fin {w : World} {b : Nat} {v0 v1 v2 v3 v4 : Value} (h : TB w b v0 v1 v2 v3 v4) (u0 u1 u2 u3 u4 : Value) : TB (tokSet w b u0 u1 u2 u3 u4) b u0 u1 u2 u3 u4 := by
 have y0 := heap_setCell_same w b 0 _ 44 u0 h
 have y1 := heap_setCell_same _ b 1 _ 44 u1 y0
 have y2 := heap_setCell_same _ b 2 _ 44 u2 y1
 have y3 := heap_setCell_same _ b 3 _ 44 u3 y2
 have y4 := heap_setCell_same _ b 4 _ 44 u4 y3
 unfold TB tokSet
 simpa using y4
theorem tok_only (w : World) (b : Nat) (u0 u1 u2 u3 u4 : Value) : Only b w (tokSet w b u0 u1 u2 u3 u4) :=
 ((((Only.set b 0 w u0).trans (Only.set b 1 _ u1)).trans (Only.set b 2 _ u2)).trans (Only.set b 3 _ u3)).trans (Only.set b 4 _ u4)

set_option maxRecDepth 100000 in
set_option maxHeartbeats 1600000 in
theorem number_no (s : ByteArray) (a : Nat) (w : World) (hok : ¬ okText s) (hs : s.size ≤ 1099511627776) :
  Calls Tryd.prog 39 #[.string s, .int .i64 a] w fun e w' => e = .returned (.tuple #[.agg #[.int .i64 0, .string ⟨#[]⟩, .bool false, .slice none 0 0, .int .i64 0], .int .i64 12]) ∧ Below w.heap.size w w' := by
 have HOK := hide hok
 clear hok
 go_enter Tryd.func39, Tryd.ntmps39
 go_wp2_with fail
 refine (parse_no s _ (by omega) HOK.out).mono ?_
 rintro e w1 ⟨rfl, rfl⟩
 go_wp2
 refine bodyPost_ret (results_ct' rfl _ _ w.heap.size 44 _ (0, 0) _ rfl (heap_alloc_new w _) Tryd.underlying44 rfl (by kernel_rfl)) rfl ?_
 exact ⟨by simp, below_alloc _ _⟩

set_option maxRecDepth 100000 in
set_option maxHeartbeats 1600000 in
theorem number_yes (s : ByteArray) (a : Nat) (w : World) (hok : okText s) (hs : s.size ≤ 1099511627776) :
  Calls Tryd.prog 39 #[.string s, .int .i64 a] w fun e w' => ∃ ad len cap zs, e = .returned (.tuple #[.agg #[.int .i64 1, .string s, .bool false, .slice ad len cap, .int .i64 a], .int .i64 0]) ∧ Out w w' ad len cap zs ∧ Canon zs ∧ val zs = (dr s 0 s.size : Int) ∧ len ≤ s.size := by
 have HOK := hide hok
 clear hok
 go_enter Tryd.func39, Tryd.ntmps39
 go_wp2_with fail
 have y := tb_new w (.int .i64 0) (.string ⟨#[]⟩) (.bool false) (.slice none 0 0) (.int .i64 0)
 have b0 := below_alloc w (.cells #[.int .i64 0, .string ⟨#[]⟩, .bool false, .slice none 0 0, .int .i64 0] 44)
 generalize w.alloc (.cells #[.int .i64 0, .string ⟨#[]⟩, .bool false, .slice none 0 0, .int .i64 0] 44) = wb at *
 have hlt := y.lt
 generalize hp : w.heap.size = r at *
 replace hp := hide hp
 refine (parse_yes s _ (by omega) HOK.out).mono ?_
 rintro e w1 ⟨ad, len, cap, zs, rfl, ho, hc, hv, hl⟩
 have y' := y.below ho.1
 have y0 := y'.c0
 have y1 := y'.c1
 have y2 := y'.c2
 have y3 := y'.c3
 have y4 := y'.c4
 have z0 := y'.f 0
 have z1 := y'.f 1
 have z2 := y'.f 2
 have z3 := y'.f 3
 have z4 := y'.f 4
 go_wp2
 refine bodyPost_ret (results_ct' rfl _ _ r 44 _ (0, 0) _ rfl (tb_fin y' _ _ _ _ _) Tryd.underlying44 rfl (by kernel_rfl)) rfl ?_
 have hB : Below r w (tokSet w1 r (.int .i64 1) (.string s) (.bool false) (.slice ad len cap) (.int .i64 a)) := (b0.trans (ho.1.mono (Nat.le_of_lt hlt))).trans ((tok_only _ _ _ _ _ _ _).below (Nat.le_refl _))
 refine ⟨ad, len, cap, zs, by simp, ?_, hc, hv, hl⟩
 have b0' := hp.out.symm ▸ b0
 have hO : Out w (tokSet w1 r (.int .i64 1) (.string s) (.bool false) (.slice ad len cap) (.int .i64 a)) ad len cap zs :=
  (ho.outer b0').keep (hp.out.symm ▸ hB) (fun b hb => (tok_only _ _ _ _ _ _ _).block b (fun e => by have := (ho.lt hb).1; omega))
 exact hO
end Go.Proofs.YtcgdhbgjmapoeaaDoor

namespace Go.Proofs.YtcgdhbgjmapoeaaDoor
open Go.RowKit

theorem ba_ext {s t : ByteArray} (h : s.size = t.size) (hb : ∀ i, i < s.size → bt s i = bt t i) : s = t := by
 apply ByteArray.ext
 apply Array.ext
 ·exact h
 ·intro i h1 h2
  have := hb i h1
  rw [bt_eq s i h1, bt_eq t i h2] at this
  exact UInt8.toNat_inj.1 this
theorem toList_iff {s t : ByteArray} : (s.toList == t.toList) = true ↔ s = t := by
 rw [beq_iff_eq, ByteArray.toList_eq, ByteArray.toList_eq]
 constructor
 ·intro h
  exact ByteArray.ext (Array.toList_inj.1 h)
 ·rintro rfl; rfl
theorem bt_of_toList {s : ByteArray} {l : List UInt8} (h : s.toList = l) (i : Nat) : bt s i = (l.getD i 0).toNat := by
 rw [ByteArray.toList_eq] at h
 unfold bt
 rw [h]

/-- does a text begin with another one? -/
def pfx (s p : ByteArray) : Bool := decide (p.size ≤ s.size) && ((s.extract 0 p.size).toList == p.toList)
theorem pfx_iff {s p : ByteArray} : pfx s p = true ↔ p.size ≤ s.size ∧ ∀ i, i < p.size → bt s i = bt p i := by
 unfold pfx
 rw [Bool.and_eq_true, decide_eq_true_iff, toList_iff]
 constructor
 ·rintro ⟨h1, h2⟩
  refine ⟨h1, fun i hi => ?_⟩
  have := bt_extract s 0 p.size i h1 (by omega)
  rw [h2, Nat.zero_add] at this
  exact this.symm
 ·rintro ⟨h1, h2⟩
  have hz : (s.extract 0 p.size).size = p.size := by rw [ByteArray.size_extract]; omega
  refine ⟨h1, ba_ext hz fun i hi => ?_⟩
  rw [hz] at hi
  rw [bt_extract s 0 p.size i h1 (by omega), Nat.zero_add]
  exact h2 i hi

set_option maxRecDepth 100000 in
set_option maxHeartbeats 1600000 in
theorem hasPrefix_in (s p : ByteArray) (w : World) (_hs : s.size ≤ 1099511627776) (_hp : p.size ≤ 1099511627776) :
  Calls Tryd.prog 50 #[.string s, .string p] w fun e w' => e = .returned (.bool (pfx s p)) ∧ w = w' := by
 by_cases h : p.size ≤ s.size
 ·go_enter Tryd.func50, Tryd.ntmps50
  go_wp2
  go_ret
  exact ⟨ret_bool (by simp [pfx, h]), rfl⟩
 ·go_enter Tryd.func50, Tryd.ntmps50
  go_wp2
  go_ret
  exact ⟨ret_bool (by simp [pfx, h]), rfl⟩
set_option maxRecDepth 100000 in
set_option maxHeartbeats 1600000 in
theorem hasPrefix_n (s p : ByteArray) (w : World) (hs : s.size ≤ 1099511627776) (hp : p.size ≤ 1099511627776) :
  Calls Tryd.prog 44 #[.string s, .string p] w fun e w' => e = .returned (.bool (pfx s p)) ∧ w = w' := by
 go_enter Tryd.func44, Tryd.ntmps44
 go_wp2_with fail
 refine (hasPrefix_in s p w hs hp).mono ?_
 rintro e w' ⟨rfl, rfl⟩
 go_wp2_with fail
 go_ret
 exact ⟨rfl, rfl⟩

theorem ret_str {a b : ByteArray} (h : a = b) : Ending.returned (.string a) = .returned (.string b) := by rw [h]
/-- the signs, those of two bytes first -/
def signL : List ByteArray := [⟨#[60, 61]⟩, ⟨#[62, 61]⟩, ⟨#[33, 61]⟩, ⟨#[60]⟩, ⟨#[62]⟩, ⟨#[61]⟩, ⟨#[43]⟩, ⟨#[45]⟩, ⟨#[42]⟩, ⟨#[46]⟩, ⟨#[40]⟩, ⟨#[41]⟩]
/-- the variable that holds them -/
def Sgn (w : World) : Prop := ∃ ty fr, w.heap[0]? = some (.cells #[.string ⟨#[60, 61]⟩, .string ⟨#[62, 61]⟩, .string ⟨#[33, 61]⟩, .string ⟨#[60]⟩, .string ⟨#[62]⟩, .string ⟨#[61]⟩, .string ⟨#[43]⟩, .string ⟨#[45]⟩, .string ⟨#[42]⟩, .string ⟨#[46]⟩, .string ⟨#[40]⟩, .string ⟨#[41]⟩] ty fr)
theorem Sgn.below {w w' : World} (h : Sgn w) (hb : Below w.heap.size w w') : Sgn w' := by
 obtain ⟨ty, fr, h⟩ := h
 have hlt : 0 < w.heap.size := (Array.getElem?_eq_some_iff.1 h).1
 exact ⟨ty, fr, (hb.block _ hlt).trans h⟩

theorem find_hit {α : Type} {l : List α} {f : α → Bool} {k : Nat} {p : α} (h : (l.take k).find? f = none) (hk : l[k]? = some p) (hp : f p = true) : l.find? f = some p := by
 obtain ⟨hlt, e⟩ := List.getElem?_eq_some_iff.1 hk
 have e2 : l = l.take k ++ p :: l.drop (k + 1) := by
  rw [← e, List.getElem_cons_drop, List.take_append_drop]
 rw [e2, List.find?_append, h, List.find?_cons_of_pos hp]
 rfl
theorem find_miss {α : Type} {l : List α} {f : α → Bool} {k : Nat} {p : α} (h : (l.take k).find? f = none) (hk : l[k]? = some p) (hp : f p = false) : (l.take (k + 1)).find? f = none := by
 rw [List.take_add_one, List.find?_append, h, hk]
 simp [hp]
/-- the sign that a text begins with -/
def sgOf (s : ByteArray) : ByteArray := (signL.find? (pfx s)).getD ⟨#[]⟩

theorem sgn_at0 (w : World) : Sem.run Tryd.prog (Instr.index 74 (.agg #[.string ⟨#[60, 61]⟩, .string ⟨#[62, 61]⟩, .string ⟨#[33, 61]⟩, .string ⟨#[60]⟩, .string ⟨#[62]⟩, .string ⟨#[61]⟩, .string ⟨#[43]⟩, .string ⟨#[45]⟩, .string ⟨#[42]⟩, .string ⟨#[46]⟩, .string ⟨#[40]⟩, .string ⟨#[41]⟩]) (.int .i64 0)) w = .ok (.string ⟨#[60, 61]⟩) w := by kernel_rfl
theorem sgn_at1 (w : World) : Sem.run Tryd.prog (Instr.index 74 (.agg #[.string ⟨#[60, 61]⟩, .string ⟨#[62, 61]⟩, .string ⟨#[33, 61]⟩, .string ⟨#[60]⟩, .string ⟨#[62]⟩, .string ⟨#[61]⟩, .string ⟨#[43]⟩, .string ⟨#[45]⟩, .string ⟨#[42]⟩, .string ⟨#[46]⟩, .string ⟨#[40]⟩, .string ⟨#[41]⟩]) (.int .i64 1)) w = .ok (.string ⟨#[62, 61]⟩) w := by kernel_rfl
theorem sgn_at2 (w : World) : Sem.run Tryd.prog (Instr.index 74 (.agg #[.string ⟨#[60, 61]⟩, .string ⟨#[62, 61]⟩, .string ⟨#[33, 61]⟩, .string ⟨#[60]⟩, .string ⟨#[62]⟩, .string ⟨#[61]⟩, .string ⟨#[43]⟩, .string ⟨#[45]⟩, .string ⟨#[42]⟩, .string ⟨#[46]⟩, .string ⟨#[40]⟩, .string ⟨#[41]⟩]) (.int .i64 2)) w = .ok (.string ⟨#[33, 61]⟩) w := by kernel_rfl
theorem sgn_at3 (w : World) : Sem.run Tryd.prog (Instr.index 74 (.agg #[.string ⟨#[60, 61]⟩, .string ⟨#[62, 61]⟩, .string ⟨#[33, 61]⟩, .string ⟨#[60]⟩, .string ⟨#[62]⟩, .string ⟨#[61]⟩, .string ⟨#[43]⟩, .string ⟨#[45]⟩, .string ⟨#[42]⟩, .string ⟨#[46]⟩, .string ⟨#[40]⟩, .string ⟨#[41]⟩]) (.int .i64 3)) w = .ok (.string ⟨#[60]⟩) w := by kernel_rfl
theorem sgn_at4 (w : World) : Sem.run Tryd.prog (Instr.index 74 (.agg #[.string ⟨#[60, 61]⟩, .string ⟨#[62, 61]⟩, .string ⟨#[33, 61]⟩, .string ⟨#[60]⟩, .string ⟨#[62]⟩, .string ⟨#[61]⟩, .string ⟨#[43]⟩, .string ⟨#[45]⟩, .string ⟨#[42]⟩, .string ⟨#[46]⟩, .string ⟨#[40]⟩, .string ⟨#[41]⟩]) (.int .i64 4)) w = .ok (.string ⟨#[62]⟩) w := by kernel_rfl
theorem sgn_at5 (w : World) : Sem.run Tryd.prog (Instr.index 74 (.agg #[.string ⟨#[60, 61]⟩, .string ⟨#[62, 61]⟩, .string ⟨#[33, 61]⟩, .string ⟨#[60]⟩, .string ⟨#[62]⟩, .string ⟨#[61]⟩, .string ⟨#[43]⟩, .string ⟨#[45]⟩, .string ⟨#[42]⟩, .string ⟨#[46]⟩, .string ⟨#[40]⟩, .string ⟨#[41]⟩]) (.int .i64 5)) w = .ok (.string ⟨#[61]⟩) w := by kernel_rfl
theorem sgn_at6 (w : World) : Sem.run Tryd.prog (Instr.index 74 (.agg #[.string ⟨#[60, 61]⟩, .string ⟨#[62, 61]⟩, .string ⟨#[33, 61]⟩, .string ⟨#[60]⟩, .string ⟨#[62]⟩, .string ⟨#[61]⟩, .string ⟨#[43]⟩, .string ⟨#[45]⟩, .string ⟨#[42]⟩, .string ⟨#[46]⟩, .string ⟨#[40]⟩, .string ⟨#[41]⟩]) (.int .i64 6)) w = .ok (.string ⟨#[43]⟩) w := by kernel_rfl
theorem sgn_at7 (w : World) : Sem.run Tryd.prog (Instr.index 74 (.agg #[.string ⟨#[60, 61]⟩, .string ⟨#[62, 61]⟩, .string ⟨#[33, 61]⟩, .string ⟨#[60]⟩, .string ⟨#[62]⟩, .string ⟨#[61]⟩, .string ⟨#[43]⟩, .string ⟨#[45]⟩, .string ⟨#[42]⟩, .string ⟨#[46]⟩, .string ⟨#[40]⟩, .string ⟨#[41]⟩]) (.int .i64 7)) w = .ok (.string ⟨#[45]⟩) w := by kernel_rfl
theorem sgn_at8 (w : World) : Sem.run Tryd.prog (Instr.index 74 (.agg #[.string ⟨#[60, 61]⟩, .string ⟨#[62, 61]⟩, .string ⟨#[33, 61]⟩, .string ⟨#[60]⟩, .string ⟨#[62]⟩, .string ⟨#[61]⟩, .string ⟨#[43]⟩, .string ⟨#[45]⟩, .string ⟨#[42]⟩, .string ⟨#[46]⟩, .string ⟨#[40]⟩, .string ⟨#[41]⟩]) (.int .i64 8)) w = .ok (.string ⟨#[42]⟩) w := by kernel_rfl
theorem sgn_at9 (w : World) : Sem.run Tryd.prog (Instr.index 74 (.agg #[.string ⟨#[60, 61]⟩, .string ⟨#[62, 61]⟩, .string ⟨#[33, 61]⟩, .string ⟨#[60]⟩, .string ⟨#[62]⟩, .string ⟨#[61]⟩, .string ⟨#[43]⟩, .string ⟨#[45]⟩, .string ⟨#[42]⟩, .string ⟨#[46]⟩, .string ⟨#[40]⟩, .string ⟨#[41]⟩]) (.int .i64 9)) w = .ok (.string ⟨#[46]⟩) w := by kernel_rfl
theorem sgn_at10 (w : World) : Sem.run Tryd.prog (Instr.index 74 (.agg #[.string ⟨#[60, 61]⟩, .string ⟨#[62, 61]⟩, .string ⟨#[33, 61]⟩, .string ⟨#[60]⟩, .string ⟨#[62]⟩, .string ⟨#[61]⟩, .string ⟨#[43]⟩, .string ⟨#[45]⟩, .string ⟨#[42]⟩, .string ⟨#[46]⟩, .string ⟨#[40]⟩, .string ⟨#[41]⟩]) (.int .i64 10)) w = .ok (.string ⟨#[40]⟩) w := by kernel_rfl
theorem sgn_at11 (w : World) : Sem.run Tryd.prog (Instr.index 74 (.agg #[.string ⟨#[60, 61]⟩, .string ⟨#[62, 61]⟩, .string ⟨#[33, 61]⟩, .string ⟨#[60]⟩, .string ⟨#[62]⟩, .string ⟨#[61]⟩, .string ⟨#[43]⟩, .string ⟨#[45]⟩, .string ⟨#[42]⟩, .string ⟨#[46]⟩, .string ⟨#[40]⟩, .string ⟨#[41]⟩]) (.int .i64 11)) w = .ok (.string ⟨#[41]⟩) w := by kernel_rfl
set_option maxRecDepth 100000 in
set_option maxHeartbeats 1600000 in
theorem signOf_n (s : ByteArray) (w : World) (hs : s.size ≤ 1099511627776) (h : Sgn w) :
  Calls Tryd.prog 41 #[.string s] w fun e w' => e = .returned (.string (sgOf s)) ∧ w = w' := by
 obtain ⟨ty, fr, h⟩ := h
 have c0 := cell_of_row w 0 0 _ _ fr h
 have c1 := cell_of_row w 0 1 _ _ fr h
 have c2 := cell_of_row w 0 2 _ _ fr h
 have c3 := cell_of_row w 0 3 _ _ fr h
 have c4 := cell_of_row w 0 4 _ _ fr h
 have c5 := cell_of_row w 0 5 _ _ fr h
 have c6 := cell_of_row w 0 6 _ _ fr h
 have c7 := cell_of_row w 0 7 _ _ fr h
 have c8 := cell_of_row w 0 8 _ _ fr h
 have c9 := cell_of_row w 0 9 _ _ fr h
 have c10 := cell_of_row w 0 10 _ _ fr h
 have c11 := cell_of_row w 0 11 _ _ fr h
 clear h
 go_enter Tryd.func41, Tryd.ntmps41
 go_wp2_with fail
 go_loop [6] (fun i => ∃ k : Nat, k ≤ 12 ∧ i = .int .i64 k ∧ Hid ((signL.take k).find? (pfx s) = none)) (fun i => 12 - (intOf i).toNat)
 case atStart => exact ⟨0, by decide, rfl, rfl⟩
 case round =>
  obtain ⟨k, hk, rfl, HJ⟩ := hrel
  have i0 := sgn_at0 w
  have i1 := sgn_at1 w
  have i2 := sgn_at2 w
  have i3 := sgn_at3 w
  have i4 := sgn_at4 w
  have i5 := sgn_at5 w
  have i6 := sgn_at6 w
  have i7 := sgn_at7 w
  have i8 := sgn_at8 w
  have i9 := sgn_at9 w
  have i10 := sgn_at10 w
  have i11 := sgn_at11 w
  clear c0 c1 c2 c3 c4 c5 c6 c7 c8 c9 c10 c11
  rcases (show k = 0 ∨ k = 1 ∨ k = 2 ∨ k = 3 ∨ k = 4 ∨ k = 5 ∨ k = 6 ∨ k = 7 ∨ k = 8 ∨ k = 9 ∨ k = 10 ∨ k = 11 ∨ k = 12 from by omega) with rfl | rfl | rfl | rfl | rfl | rfl | rfl | rfl | rfl | rfl | rfl | rfl | rfl
  case inr.inr.inr.inr.inr.inr.inr.inr.inr.inr.inr.inr =>
   go_wp2_with fail
   go_ret
   exact ⟨ret_str (by unfold sgOf; rw [show signL = signL.take 12 from rfl, HJ.out]; rfl), rfl⟩
  all_goals (
   go_wp2_with fail
   refine (hasPrefix_n s _ w hs ?_).mono ?_
   ·decide
   rintro e w' ⟨rfl, rfl⟩)
  ·cases hq : pfx s ⟨#[60, 61]⟩
   ·have HN : Hid ((signL.take 1).find? (pfx s) = none) := find_miss (k := 0) HJ.out rfl hq
    clear hq HJ
    go_wp2_with fail
    exact ⟨⟨1, by decide, rfl, HN⟩, by decide⟩
   ·have HN : Hid (signL.find? (pfx s) = some ⟨#[60, 61]⟩) := find_hit (k := 0) HJ.out rfl hq
    clear hq HJ
    go_wp2_with fail
    go_ret
    exact ⟨ret_str (by unfold sgOf; rw [HN.out]; rfl), rfl⟩
  ·cases hq : pfx s ⟨#[62, 61]⟩
   ·have HN : Hid ((signL.take 2).find? (pfx s) = none) := find_miss (k := 1) HJ.out rfl hq
    clear hq HJ
    go_wp2_with fail
    exact ⟨⟨2, by decide, rfl, HN⟩, by decide⟩
   ·have HN : Hid (signL.find? (pfx s) = some ⟨#[62, 61]⟩) := find_hit (k := 1) HJ.out rfl hq
    clear hq HJ
    go_wp2_with fail
    go_ret
    exact ⟨ret_str (by unfold sgOf; rw [HN.out]; rfl), rfl⟩
  ·cases hq : pfx s ⟨#[33, 61]⟩
   ·have HN : Hid ((signL.take 3).find? (pfx s) = none) := find_miss (k := 2) HJ.out rfl hq
    clear hq HJ
    go_wp2_with fail
    exact ⟨⟨3, by decide, rfl, HN⟩, by decide⟩
   ·have HN : Hid (signL.find? (pfx s) = some ⟨#[33, 61]⟩) := find_hit (k := 2) HJ.out rfl hq
    clear hq HJ
    go_wp2_with fail
    go_ret
    exact ⟨ret_str (by unfold sgOf; rw [HN.out]; rfl), rfl⟩
  ·cases hq : pfx s ⟨#[60]⟩
   ·have HN : Hid ((signL.take 4).find? (pfx s) = none) := find_miss (k := 3) HJ.out rfl hq
    clear hq HJ
    go_wp2_with fail
    exact ⟨⟨4, by decide, rfl, HN⟩, by decide⟩
   ·have HN : Hid (signL.find? (pfx s) = some ⟨#[60]⟩) := find_hit (k := 3) HJ.out rfl hq
    clear hq HJ
    go_wp2_with fail
    go_ret
    exact ⟨ret_str (by unfold sgOf; rw [HN.out]; rfl), rfl⟩
  ·cases hq : pfx s ⟨#[62]⟩
   ·have HN : Hid ((signL.take 5).find? (pfx s) = none) := find_miss (k := 4) HJ.out rfl hq
    clear hq HJ
    go_wp2_with fail
    exact ⟨⟨5, by decide, rfl, HN⟩, by decide⟩
   ·have HN : Hid (signL.find? (pfx s) = some ⟨#[62]⟩) := find_hit (k := 4) HJ.out rfl hq
    clear hq HJ
    go_wp2_with fail
    go_ret
    exact ⟨ret_str (by unfold sgOf; rw [HN.out]; rfl), rfl⟩
  ·cases hq : pfx s ⟨#[61]⟩
   ·have HN : Hid ((signL.take 6).find? (pfx s) = none) := find_miss (k := 5) HJ.out rfl hq
    clear hq HJ
    go_wp2_with fail
    exact ⟨⟨6, by decide, rfl, HN⟩, by decide⟩
   ·have HN : Hid (signL.find? (pfx s) = some ⟨#[61]⟩) := find_hit (k := 5) HJ.out rfl hq
    clear hq HJ
    go_wp2_with fail
    go_ret
    exact ⟨ret_str (by unfold sgOf; rw [HN.out]; rfl), rfl⟩
  ·cases hq : pfx s ⟨#[43]⟩
   ·have HN : Hid ((signL.take 7).find? (pfx s) = none) := find_miss (k := 6) HJ.out rfl hq
    clear hq HJ
    go_wp2_with fail
    exact ⟨⟨7, by decide, rfl, HN⟩, by decide⟩
   ·have HN : Hid (signL.find? (pfx s) = some ⟨#[43]⟩) := find_hit (k := 6) HJ.out rfl hq
    clear hq HJ
    go_wp2_with fail
    go_ret
    exact ⟨ret_str (by unfold sgOf; rw [HN.out]; rfl), rfl⟩
  ·cases hq : pfx s ⟨#[45]⟩
   ·have HN : Hid ((signL.take 8).find? (pfx s) = none) := find_miss (k := 7) HJ.out rfl hq
    clear hq HJ
    go_wp2_with fail
    exact ⟨⟨8, by decide, rfl, HN⟩, by decide⟩
   ·have HN : Hid (signL.find? (pfx s) = some ⟨#[45]⟩) := find_hit (k := 7) HJ.out rfl hq
    clear hq HJ
    go_wp2_with fail
    go_ret
    exact ⟨ret_str (by unfold sgOf; rw [HN.out]; rfl), rfl⟩
  ·cases hq : pfx s ⟨#[42]⟩
   ·have HN : Hid ((signL.take 9).find? (pfx s) = none) := find_miss (k := 8) HJ.out rfl hq
    clear hq HJ
    go_wp2_with fail
    exact ⟨⟨9, by decide, rfl, HN⟩, by decide⟩
   ·have HN : Hid (signL.find? (pfx s) = some ⟨#[42]⟩) := find_hit (k := 8) HJ.out rfl hq
    clear hq HJ
    go_wp2_with fail
    go_ret
    exact ⟨ret_str (by unfold sgOf; rw [HN.out]; rfl), rfl⟩
  ·cases hq : pfx s ⟨#[46]⟩
   ·have HN : Hid ((signL.take 10).find? (pfx s) = none) := find_miss (k := 9) HJ.out rfl hq
    clear hq HJ
    go_wp2_with fail
    exact ⟨⟨10, by decide, rfl, HN⟩, by decide⟩
   ·have HN : Hid (signL.find? (pfx s) = some ⟨#[46]⟩) := find_hit (k := 9) HJ.out rfl hq
    clear hq HJ
    go_wp2_with fail
    go_ret
    exact ⟨ret_str (by unfold sgOf; rw [HN.out]; rfl), rfl⟩
  ·cases hq : pfx s ⟨#[40]⟩
   ·have HN : Hid ((signL.take 11).find? (pfx s) = none) := find_miss (k := 10) HJ.out rfl hq
    clear hq HJ
    go_wp2_with fail
    exact ⟨⟨11, by decide, rfl, HN⟩, by decide⟩
   ·have HN : Hid (signL.find? (pfx s) = some ⟨#[40]⟩) := find_hit (k := 10) HJ.out rfl hq
    clear hq HJ
    go_wp2_with fail
    go_ret
    exact ⟨ret_str (by unfold sgOf; rw [HN.out]; rfl), rfl⟩
  ·cases hq : pfx s ⟨#[41]⟩
   ·have HN : Hid ((signL.take 12).find? (pfx s) = none) := find_miss (k := 11) HJ.out rfl hq
    clear hq HJ
    go_wp2_with fail
    exact ⟨⟨12, by decide, rfl, HN⟩, by decide⟩
   ·have HN : Hid (signL.find? (pfx s) = some ⟨#[41]⟩) := find_hit (k := 11) HJ.out rfl hq
    clear hq HJ
    go_wp2_with fail
    go_ret
    exact ⟨ret_str (by unfold sgOf; rw [HN.out]; rfl), rfl⟩
end Go.Proofs.YtcgdhbgjmapoeaaDoor

namespace Go.Proofs.YtcgdhbgjmapoeaaDoor
open Go.RowKit

/-- a word: its kind, its bytes, the number that it says, its place -/
structure TD where
  kind : Int
  text : ByteArray
  num : Int
  at' : Nat
/-- from place a on k bytes stand in a row, and no more -/
def RowAt (s : ByteArray) (a k : Nat) : Prop := a + k ≤ s.size ∧ (∀ j, j < k → inRow (bt s (a + j)) = true) ∧ (a + k < s.size → inRow (bt s (a + k)) = false)
theorem RowAt.unique {s : ByteArray} {a k m : Nat} (h : RowAt s a k) (h' : RowAt s a m) : k = m := by
  rcases Nat.lt_trichotomy k m with hlt | rfl | hlt
  · have h1 := h.2.2 (by have := h'.1; omega)
    have h2 := h'.2.1 k hlt
    rw [h1] at h2; cases h2
  · rfl
  · have h1 := h'.2.2 (by have := h.1; omega)
    have h2 := h.2.1 m hlt
    rw [h1] at h2; cases h2
theorem size_suffix {s : ByteArray} {a : Nat} : (s.extract a s.size).size = s.size - a := by rw [ByteArray.size_extract]; omega
theorem bt_suffix {s : ByteArray} {a i : Nat} (h : a + i < s.size) : bt (s.extract a s.size) i = bt s (a + i) := bt_extract s a s.size i (Nat.le_refl _) h
theorem rowAt_of {s : ByteArray} {a k : Nat} (ha : a ≤ s.size) (h : RowEnd (s.extract a s.size) k) : RowAt s a k := by
  obtain ⟨h1, h2, h3⟩ := h
  rw [size_suffix] at h1 h3
  refine ⟨by omega, fun j hj => ?_, fun hk => ?_⟩
  · rw [← bt_suffix (by omega)]; exact h2 j hj
  · rw [← bt_suffix (by omega)]; exact h3 (by omega)
theorem extract_suffix {s : ByteArray} {a k : Nat} (h : a + k ≤ s.size) : (s.extract a s.size).extract 0 k = s.extract a (a + k) := by
  rw [ByteArray.extract_extract, Nat.add_zero, Nat.min_eq_left h]

/-- the word at place a -/
def Wd (s : ByteArray) (a : Nat) (t : TD) : Prop :=
  t.at' = a ∧ a + t.text.size ≤ s.size ∧ t.text = s.extract a (a + t.text.size) ∧
  ((cls (bt s a) = 1 ∧ RowAt s a t.text.size ∧ okText t.text ∧ t.kind = 1 ∧ t.num = (dr t.text 0 t.text.size : Int)) ∨
   (cls (bt s a) = 2 ∧ RowAt s a t.text.size ∧ t.kind = kd t.text ∧ t.kind ≠ 0 ∧ t.num = 0) ∨
   (cls (bt s a) ≠ 1 ∧ cls (bt s a) ≠ 2 ∧ t.text = sgOf (s.extract a s.size) ∧ 0 < t.text.size ∧ t.kind = 4 ∧ t.num = 0))
/-- no word is at place a: the error -/
def Nw (s : ByteArray) (a : Nat) (e : Int) : Prop :=
  (cls (bt s a) = 1 ∧ (∃ k, RowAt s a k ∧ ¬ okText (s.extract a (a + k))) ∧ e = 12) ∨
  (cls (bt s a) = 2 ∧ (∃ k, RowAt s a k ∧ kd (s.extract a (a + k)) = 0) ∧ e = 30) ∨
  (cls (bt s a) ≠ 1 ∧ cls (bt s a) ≠ 2 ∧ (sgOf (s.extract a s.size)).size = 0 ∧ e = 30)

theorem size_mid {s : ByteArray} {a k : Nat} (h : a + k ≤ s.size) : (s.extract a (a + k)).size = k := by rw [ByteArray.size_extract]; omega
theorem bt_mid' {s : ByteArray} {a n i : Nat} (h : a + n ≤ s.size) (hi : i < n) : bt (s.extract a (a + n)) i = bt s (a + i) := bt_extract s a (a + n) i h (by omega)
theorem rowAt_pos {s : ByteArray} {a k : Nat} (h : RowAt s a k) (ha : a < s.size) (hc : cls (bt s a) = 1 ∨ cls (bt s a) = 2) : 0 < k := by
  rcases Nat.eq_zero_or_pos k with rfl | h0
  · have := h.2.2 (by omega)
    rw [Nat.add_zero] at this
    unfold inRow at this
    rw [decide_eq_false_iff_not] at this
    exact absurd (by omega) this
  · exact h0
theorem sgOf_pfx {s : ByteArray} (h : 0 < (sgOf s).size) : pfx s (sgOf s) = true := by
  unfold sgOf at h ⊢
  cases hq : signL.find? (pfx s) with
  | none => rw [hq] at h; exact absurd h (by decide)
  | some p => exact List.find?_some hq
theorem sgOf_le (s : ByteArray) : (sgOf s).size ≤ s.size := by
  rcases Nat.eq_zero_or_pos (sgOf s).size with h | h
  · omega
  · exact (pfx_iff.1 (sgOf_pfx h)).1
theorem sgOf_eq {s : ByteArray} (h : 0 < (sgOf s).size) : sgOf s = s.extract 0 (sgOf s).size := by
  have h1 := sgOf_pfx h
  unfold pfx at h1
  rw [Bool.and_eq_true, toList_iff] at h1
  exact h1.2.symm
theorem wd_size {s : ByteArray} {a : Nat} {t : TD} (h : Wd s a t) (ha : a < s.size) : 0 < t.text.size := by
  obtain ⟨_, _, _, ⟨hc, hr, _⟩ | ⟨hc, hr, _⟩ | ⟨_, _, _, h0, _⟩⟩ := h
  · exact rowAt_pos hr ha (.inl hc)
  · exact rowAt_pos hr ha (.inr hc)
  · exact h0

/-- one of both is at a place, and just one -/
theorem wd_unique {s : ByteArray} {a : Nat} {t u : TD} (h : Wd s a t) (h' : Wd s a u) : t = u := by
  obtain ⟨a1, _, e1, h1⟩ := h
  obtain ⟨a2, _, e2, h2⟩ := h'
  have key : t.text = u.text → t.kind = u.kind → t.num = u.num → t = u := by
    intro h3 h4 h5
    cases t; cases u
    simp only at *
    rw [h3, h4, h5, a1, a2]
  rcases h1 with ⟨c1, r1, o1, k1, n1⟩ | ⟨c1, r1, k1, o1, n1⟩ | ⟨c1, d1, x1, o1, k1, n1⟩ <;> rcases h2 with ⟨c2, r2, o2, k2, n2⟩ | ⟨c2, r2, k2, o2, n2⟩ | ⟨c2, d2, x2, o2, k2, n2⟩
  all_goals first
    | (exfalso; omega)
    | (have hs := r1.unique r2
       have ht : t.text = u.text := by rw [e1, e2, hs]
       refine key ht ?_ ?_
       · first | (rw [k1, k2]; done) | rw [k1, k2, ht]
       · first | (rw [n1, n2]; done) | rw [n1, n2, ht])
    | exact key (by rw [x1, x2]) (by rw [k1, k2]) (by rw [n1, n2])
theorem nw_wd {s : ByteArray} {a : Nat} {t : TD} {e : Int} (h : Wd s a t) (h' : Nw s a e) : False := by
  obtain ⟨a1, _, e1, h1⟩ := h
  rcases h1 with ⟨c1, r1, o1, k1, n1⟩ | ⟨c1, r1, k1, o1, n1⟩ | ⟨c1, d1, x1, o1, k1, n1⟩ <;> rcases h' with ⟨c2, ⟨k, r2, o2⟩, _⟩ | ⟨c2, ⟨k, r2, o2⟩, _⟩ | ⟨c2, d2, x2, _⟩
  all_goals first
    | (exfalso; omega)
    | (have hs := r1.unique r2
       rw [← hs, ← e1] at o2
       first | exact o2 o1 | exact o1 (k1.trans o2))
    | (rw [x1] at o1; omega)
theorem nw_unique {s : ByteArray} {a : Nat} {e f : Int} (h : Nw s a e) (h' : Nw s a f) : e = f := by
  rcases h with ⟨c1, _, k1⟩ | ⟨c1, _, k1⟩ | ⟨c1, d1, x1, k1⟩ <;> rcases h' with ⟨c2, _, k2⟩ | ⟨c2, _, k2⟩ | ⟨c2, d2, x2, k2⟩ <;> first | (exfalso; omega) | (rw [k1, k2])
end Go.Proofs.YtcgdhbgjmapoeaaDoor

namespace Go.Proofs.YtcgdhbgjmapoeaaDoor
open Go.RowKit

theorem below_tok {w wb w' : World} {r : Nat} (b0 : Below w.heap.size w wb) (hr : w.heap.size ≤ r) (k : Below wb.heap.size wb w') (u0 u1 u2 u3 u4 : Value) : Below w.heap.size w (tokSet w' r u0 u1 u2 u3 u4) :=
 (grow_step k b0).trans ((tok_only _ _ _ _ _ _ _).below hr)
theorem out_tok {w wb w' : World} {r : Nat} (b0 : Below w.heap.size w wb) (hr : w.heap.size ≤ r) (hrb : r < wb.heap.size) (u0 u1 u2 u3 u4 : Value) {ad : Option Addr} {len cap : Nat} {zs : List Int} (ho : Out wb w' ad len cap zs) : Out w (tokSet w' r u0 u1 u2 u3 u4) ad len cap zs :=
 (ho.outer b0).keep (below_tok b0 hr ho.1 _ _ _ _ _) (fun b hb => (tok_only _ _ _ _ _ _ _).block b (fun e => by have := (ho.lt hb).1; omega))
theorem out_non {w w' : World} (h : Below w.heap.size w w') : Out w w' none 0 0 [] := ⟨h, .inl ⟨rfl, rfl, rfl, rfl⟩⟩

theorem kd_pos {s : ByteArray} (h : kd s ≠ 0) : 0 < kd s := by
 unfold kd at *
 split
 ·decide
 ·split
  ·rename_i h1 h2; rw [if_neg h1, if_pos h2] at h; exact absurd rfl h
  ·decide
set_option maxRecDepth 100000 in
set_option maxHeartbeats 1600000 in
theorem wordAt_any (s : ByteArray) (a : Nat) (w : World) (hs : s.size ≤ 1099511627776) (ha : a < s.size) (hS : Sgn w) :
  Calls Tryd.prog 35 #[.string s, .int .i64 a] w fun e w' =>
   (∃ t ad len cap zs, e = .returned (.tuple #[.agg #[.int .i64 t.kind, .string t.text, .bool false, .slice ad len cap, .int .i64 a], .int .i64 0]) ∧ Wd s a t ∧ Out w w' ad len cap zs ∧ Canon zs ∧ val zs = t.num ∧ len ≤ s.size) ∨
   (∃ x, e = .returned (.tuple #[.agg #[.int .i64 0, .string ⟨#[]⟩, .bool false, .slice none 0 0, .int .i64 0], .int .i64 x]) ∧ Nw s a x ∧ Below w.heap.size w w') := by
 have hb := bt_lt s a
 have he := bt_eq s a ha
 have hz : (s.extract a s.size).size = s.size - a := size_suffix
 go_enter Tryd.func35, Tryd.ntmps35
 go_wp2_with fail
 have y := tb_new w (.int .i64 0) (.string ⟨#[]⟩) (.bool false) (.slice none 0 0) (.int .i64 0)
 have b0 := below_alloc w (.cells #[.int .i64 0, .string ⟨#[]⟩, .bool false, .slice none 0 0, .int .i64 0] 44)
 replace hS := hS.below b0
 generalize w.alloc (.cells #[.int .i64 0, .string ⟨#[]⟩, .bool false, .slice none 0 0, .int .i64 0] 44) = wb at *
 have hlt := y.lt
 generalize hr : w.heap.size = r at y hlt
 have hle : w.heap.size ≤ r := by rw [hr]; exact Nat.le_refl _
 replace hr := hide hr
 refine (lookAt_n ((s[a]'ha).toNat : Int) (by omega) (by omega) wb).mono ?_
 rintro e w' ⟨rfl, rfl⟩
 rw [← he]
 have hc := cls_bd (bt s a)
 by_cases h1 : cls (bt s a) = 1
 ·have H1 := hide h1
  rw [h1]
  clear h1
  go_wp2_with fail
  refine (rowOf_n (s.extract a s.size) wb (by omega)).mono ?_
  rintro e w' ⟨k, hk, rfl, rfl⟩
  have hra := rowAt_of (by omega) hk
  have hkl := hra.1
  have hkz : (s.extract a (a + k)).size = k := size_mid hkl
  rw [extract_suffix hkl]
  clear hk
  by_cases hok : okText (s.extract a (a + k))
  ·go_wp2_with fail
   refine (number_yes (s.extract a (a + k)) a wb hok (by omega)).mono ?_
   rintro e w1 ⟨ad, len, cap, zs, rfl, ho, hcn, hv, hl⟩
   have y' := y.below ho.1
   have y0 := y'.c0
   have y1 := y'.c1
   have y2 := y'.c2
   have y3 := y'.c3
   have y4 := y'.c4
   have z0 := y'.f 0
   have z1 := y'.f 1
   have z2 := y'.f 2
   have z3 := y'.f 3
   have z4 := y'.f 4
   go_wp2
   refine bodyPost_ret (results_ct' rfl _ _ r 44 _ (0, 0) _ rfl (tb_fin y' _ _ _ _ _) Tryd.underlying44 rfl (by kernel_rfl)) rfl ?_
   exact .inl ⟨⟨1, s.extract a (a + k), dr (s.extract a (a + k)) 0 (s.extract a (a + k)).size, a⟩, ad, len, cap, zs, by simp, ⟨rfl, by rw [hkz]; exact hkl, by rw [hkz], .inl ⟨H1.out, by rw [hkz]; exact hra, hok, rfl, rfl⟩⟩, out_tok b0 hle hlt _ _ _ _ _ ho, hcn, hv, by omega⟩
  ·go_wp2_with fail
   refine (number_no (s.extract a (a + k)) a wb hok (by omega)).mono ?_
   rintro e w1 ⟨rfl, ho⟩
   have y' := y.below ho
   have y0 := y'.c0
   have y1 := y'.c1
   have y2 := y'.c2
   have y3 := y'.c3
   have y4 := y'.c4
   have z0 := y'.f 0
   have z1 := y'.f 1
   have z2 := y'.f 2
   have z3 := y'.f 3
   have z4 := y'.f 4
   go_wp2
   refine bodyPost_ret (results_ct' rfl _ _ r 44 _ (0, 0) _ rfl (tb_fin y' _ _ _ _ _) Tryd.underlying44 rfl (by kernel_rfl)) rfl ?_
   exact .inr ⟨12, by simp, .inl ⟨H1.out, ⟨k, hra, hok⟩, rfl⟩, below_tok b0 hle ho _ _ _ _ _⟩
 ·by_cases h2 : cls (bt s a) = 2
  ·have H2 := hide h2
   rw [h2]
   clear h2 h1
   go_wp2_with fail
   refine (rowOf_n (s.extract a s.size) wb (by omega)).mono ?_
   rintro e w' ⟨k, hk, rfl, rfl⟩
   have hra := rowAt_of (by omega) hk
   have hkl := hra.1
   have hkz : (s.extract a (a + k)).size = k := size_mid hkl
   rw [extract_suffix hkl]
   clear hk
   go_wp2_with fail
   refine (kindOf_n (s.extract a (a + k)) wb (by omega)).mono ?_
   rintro e w' ⟨rfl, rfl⟩
   have hk0 := rowAt_pos hra ha (.inr H2.out)
   by_cases hkd : kd (s.extract a (a + k)) = 0
   ·have HK := hide hkd
    rw [hkd]
    clear hkd
    go_wp2_with fail
    refine (plain_no 0 (s.extract a (a + k)) a wb (.inl rfl)).mono ?_
    rintro e w1 ⟨rfl, ho⟩
    have y' := y.below ho
    have y0 := y'.c0
    have y1 := y'.c1
    have y2 := y'.c2
    have y3 := y'.c3
    have y4 := y'.c4
    have z0 := y'.f 0
    have z1 := y'.f 1
    have z2 := y'.f 2
    have z3 := y'.f 3
    have z4 := y'.f 4
    go_wp2
    refine bodyPost_ret (results_ct' rfl _ _ r 44 _ (0, 0) _ rfl (tb_fin y' _ _ _ _ _) Tryd.underlying44 rfl (by kernel_rfl)) rfl ?_
    exact .inr ⟨30, by simp, .inr (.inl ⟨H2.out, ⟨k, hra, HK.out⟩, rfl⟩), below_tok b0 hle ho _ _ _ _ _⟩
   ·have HK := hide hkd
    have hkp := kd_pos hkd
    clear hkd
    go_wp2_with fail
    refine (plain_yes _ (s.extract a (a + k)) a wb hkp (by omega)).mono ?_
    rintro e w1 ⟨rfl, ho⟩
    have y' := y.below ho
    have y0 := y'.c0
    have y1 := y'.c1
    have y2 := y'.c2
    have y3 := y'.c3
    have y4 := y'.c4
    have z0 := y'.f 0
    have z1 := y'.f 1
    have z2 := y'.f 2
    have z3 := y'.f 3
    have z4 := y'.f 4
    go_wp2
    refine bodyPost_ret (results_ct' rfl _ _ r 44 _ (0, 0) _ rfl (tb_fin y' _ _ _ _ _) Tryd.underlying44 rfl (by kernel_rfl)) rfl ?_
    exact .inl ⟨⟨kd (s.extract a (a + k)), s.extract a (a + k), 0, a⟩, none, 0, 0, [], by simp, ⟨rfl, by rw [hkz]; exact hkl, by rw [hkz], .inr (.inl ⟨H2.out, by rw [hkz]; exact hra, rfl, HK.out, rfl⟩)⟩, out_non (below_tok b0 hle ho _ _ _ _ _), canon_nil, rfl, by omega⟩
  ·have H1 := hide h1
   have H2 := hide h2
   have n1 : (cls (bt s a) == 1) = false := by rw [beq_eq_false_iff_ne]; exact h1
   have n2 : (cls (bt s a) == 2) = false := by rw [beq_eq_false_iff_ne]; exact h2
   clear h1 h2
   generalize hcc : cls (bt s a) = c at *
   replace hcc := hide hcc
   go_wp2_with fail
   refine (signOf_n (s.extract a s.size) wb (by omega) hS).mono ?_
   rintro e w' ⟨rfl, rfl⟩
   have hsl := sgOf_le (s.extract a s.size)
   by_cases hg : 0 < (sgOf (s.extract a s.size)).size
   ·have hge := sgOf_eq hg
    rw [extract_suffix (by omega)] at hge
    replace hge := hide hge
    go_wp2_with fail
    refine (plain_yes 4 (sgOf (s.extract a s.size)) a wb (by decide) hg).mono ?_
    rintro e w1 ⟨rfl, ho⟩
    have y' := y.below ho
    have y0 := y'.c0
    have y1 := y'.c1
    have y2 := y'.c2
    have y3 := y'.c3
    have y4 := y'.c4
    have z0 := y'.f 0
    have z1 := y'.f 1
    have z2 := y'.f 2
    have z3 := y'.f 3
    have z4 := y'.f 4
    go_wp2
    refine bodyPost_ret (results_ct' rfl _ _ r 44 _ (0, 0) _ rfl (tb_fin y' _ _ _ _ _) Tryd.underlying44 rfl (by kernel_rfl)) rfl ?_
    exact .inl ⟨⟨4, sgOf (s.extract a s.size), 0, a⟩, none, 0, 0, [], by simp, ⟨rfl, by show a + (sgOf (s.extract a s.size)).size ≤ s.size; omega, hge.out, .inr (.inr ⟨by rw [hcc.out]; exact H1.out, by rw [hcc.out]; exact H2.out, rfl, hg, rfl, rfl⟩)⟩, out_non (below_tok b0 hle ho _ _ _ _ _), canon_nil, rfl, by omega⟩
   ·go_wp2_with fail
    refine (plain_no 4 (sgOf (s.extract a s.size)) a wb (.inr (by omega))).mono ?_
    rintro e w1 ⟨rfl, ho⟩
    have y' := y.below ho
    have y0 := y'.c0
    have y1 := y'.c1
    have y2 := y'.c2
    have y3 := y'.c3
    have y4 := y'.c4
    have z0 := y'.f 0
    have z1 := y'.f 1
    have z2 := y'.f 2
    have z3 := y'.f 3
    have z4 := y'.f 4
    go_wp2
    refine bodyPost_ret (results_ct' rfl _ _ r 44 _ (0, 0) _ rfl (tb_fin y' _ _ _ _ _) Tryd.underlying44 rfl (by kernel_rfl)) rfl ?_
    exact .inr ⟨30, by simp, .inr (.inr ⟨by rw [hcc.out]; exact H1.out, by rw [hcc.out]; exact H2.out, by omega, rfl⟩), below_tok b0 hle ho _ _ _ _ _⟩
end Go.Proofs.YtcgdhbgjmapoeaaDoor

namespace Go.Proofs.YtcgdhbgjmapoeaaDoor
open Go.RowKit

/-- from place a on a text has these words, and then this error (0: none), at that place -/
def LxL (s : ByteArray) : List TD → Nat → Int → Nat → Prop
 | [], a, e, p => (BlankEnd s a s.size ∧ e = 0 ∧ p = 0) ∨ ∃ k, BlankEnd s a k ∧ k < s.size ∧ Nw s k e ∧ p = k
 | t :: ts, a, e, p => ∃ k, BlankEnd s a k ∧ k < s.size ∧ Wd s k t ∧ LxL s ts (k + t.text.size) e p
def Lx (s : ByteArray) (a : Nat) (ts : List TD) (e : Int) (p : Nat) : Prop := LxL s ts a e p
theorem Lx.done {s : ByteArray} {a : Nat} (h : BlankEnd s a s.size) : Lx s a [] 0 0 := .inl ⟨h, rfl, rfl⟩
theorem Lx.bad {s : ByteArray} {a k : Nat} {e : Int} (h : BlankEnd s a k) (hk : k < s.size) (hn : Nw s k e) : Lx s a [] e k := .inr ⟨k, h, hk, hn, rfl⟩
theorem Lx.word {s : ByteArray} {a k : Nat} {t : TD} {ts : List TD} {e : Int} {p : Nat} (h : BlankEnd s a k) (hk : k < s.size) (hw : Wd s k t) (hr : Lx s (k + t.text.size) ts e p) : Lx s a (t :: ts) e p := ⟨k, h, hk, hw, hr⟩
theorem Lx.nil {s : ByteArray} {a : Nat} {e : Int} {p : Nat} (h : Lx s a [] e p) : (BlankEnd s a s.size ∧ e = 0 ∧ p = 0) ∨ ∃ k, BlankEnd s a k ∧ k < s.size ∧ Nw s k e ∧ p = k := h
theorem Lx.cons {s : ByteArray} {a : Nat} {t : TD} {ts : List TD} {e : Int} {p : Nat} (h : Lx s a (t :: ts) e p) : ∃ k, BlankEnd s a k ∧ k < s.size ∧ Wd s k t ∧ Lx s (k + t.text.size) ts e p := h

theorem blank_self {s : ByteArray} {a k : Nat} (h : BlankEnd s a k) : BlankEnd s k k := ⟨Nat.le_refl _, h.2.1, fun j h1 h2 => absurd h1 (by omega), h.2.2.2⟩
theorem blank_trans {s : ByteArray} {a k m : Nat} (h : BlankEnd s a k) (h' : BlankEnd s k m) : BlankEnd s a m := by
 obtain rfl := (blank_self h).unique h'
 exact h
theorem lx_skip {s : ByteArray} {a k : Nat} {ts : List TD} {e : Int} {p : Nat} (h : BlankEnd s a k) (hl : Lx s k ts e p) : Lx s a ts e p := by
 cases ts with
 | nil =>
  rcases hl.nil with ⟨h', rfl, rfl⟩ | ⟨k', h', hk, hn, rfl⟩
  ·exact .done (blank_trans h h')
  ·exact .bad (blank_trans h h') hk hn
 | cons t ts =>
  obtain ⟨k', h', hk, hw, hr⟩ := hl.cons
  exact .word (blank_trans h h') hk hw hr
theorem nw_ne {s : ByteArray} {a : Nat} {e : Int} (h : Nw s a e) : e = 12 ∨ e = 30 := by
 rcases h with ⟨_, _, h⟩ | ⟨_, _, h⟩ | ⟨_, _, _, h⟩ <;> omega
theorem lx_unique {s : ByteArray} {a : Nat} {ts us : List TD} {e f : Int} {p q : Nat} (h : Lx s a ts e p) (h' : Lx s a us f q) : ts = us ∧ e = f ∧ p = q := by
 induction ts generalizing a us f q with
 | nil =>
  rcases h.nil with ⟨h1, rfl, rfl⟩ | ⟨k1, h1, hk1, hn1, rfl⟩
  ·cases us with
   | nil =>
    rcases h'.nil with ⟨h2, rfl, rfl⟩ | ⟨k2, h2, hk, hn, rfl⟩
    ·exact ⟨rfl, rfl, rfl⟩
    ·have := h1.unique h2; omega
   | cons t us =>
    obtain ⟨k2, h2, hk, hw, hr⟩ := h'.cons
    have := h1.unique h2; omega
  ·cases us with
   | nil =>
    rcases h'.nil with ⟨h2, rfl, rfl⟩ | ⟨k2, h2, hk, hn, rfl⟩
    ·have := h1.unique h2; omega
    ·obtain rfl := h1.unique h2
     exact ⟨rfl, nw_unique hn1 hn, rfl⟩
   | cons t us =>
    obtain ⟨k2, h2, hk, hw, hr⟩ := h'.cons
    obtain rfl := h1.unique h2
    exact (nw_wd hw hn1).elim
 | cons t ts ih =>
  obtain ⟨k1, h1, hk1, hw1, hr1⟩ := h.cons
  cases us with
  | nil =>
   rcases h'.nil with ⟨h2, rfl, rfl⟩ | ⟨k2, h2, hk, hn, rfl⟩
   ·have := h1.unique h2; omega
   ·obtain rfl := h1.unique h2
    exact (nw_wd hw1 hn).elim
  | cons t' us =>
   obtain ⟨k2, h2, hk, hw, hr⟩ := h'.cons
   obtain rfl := h1.unique h2
   obtain rfl := wd_unique hw1 hw
   obtain ⟨rfl, rfl, rfl⟩ := ih hr1 hr
   exact ⟨rfl, rfl, rfl⟩
/-- these are a text's first words: what stands behind them, from a place on, is the rest -/
def Pfx (s : ByteArray) (ds : List TD) : Prop := ∃ a, a ≤ s.size ∧ ∀ ts x p, Lx s a ts x p → Lx s 0 (ds ++ ts) x p
/-- a text's words, and what is wrong -/
def Lxs (s : ByteArray) (ts : List TD) (e : Int) (p : Nat) : Prop := if 4096 < s.size then ts = [] ∧ e = 40 ∧ p = 0 else Lx s 0 ts e p
theorem lxs_unique {s : ByteArray} {ts us : List TD} {e f : Int} {p q : Nat} (h : Lxs s ts e p) (h' : Lxs s us f q) : ts = us ∧ e = f ∧ p = q := by
 unfold Lxs at h h'
 split at h
 ·rename_i hc
  rw [if_pos hc] at h'
  obtain ⟨rfl, rfl, rfl⟩ := h
  obtain ⟨rfl, rfl, rfl⟩ := h'
  exact ⟨rfl, rfl, rfl⟩
 ·rename_i hc
  rw [if_neg hc] at h'
  exact lx_unique h h'
theorem lx_zero {s : ByteArray} {a : Nat} {ts : List TD} {p : Nat} {e : Int} (h : Lx s a ts e p) : (e = 0 ∧ p = 0) ∨ (e = 12 ∨ e = 30) ∧ p < s.size := by
 induction ts generalizing a with
 | nil =>
  rcases h.nil with ⟨_, rfl, rfl⟩ | ⟨k, h, hk, hn, rfl⟩
  ·exact .inl ⟨rfl, rfl⟩
  ·exact .inr ⟨nw_ne hn, hk⟩
 | cons t ts ih =>
  obtain ⟨k, h, hk, hw, hr⟩ := h.cons
  exact ih hr
end Go.Proofs.YtcgdhbgjmapoeaaDoor
