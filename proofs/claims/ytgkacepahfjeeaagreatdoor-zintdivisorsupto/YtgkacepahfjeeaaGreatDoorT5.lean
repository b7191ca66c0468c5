/-
  Walks: value, timesPlus, Parse.
-/
import Derived.Test.YtgkacepahfjeeaaGreatDoorT4
namespace Go.Proofs.YtgkacepahfjeeaaGreatDoor
open Go.RowKit

/-- the number of k digits from place a on -/
def dr (s : ByteArray) (a : Nat) : Nat → Nat
  | 0 => 0
  | k + 1 => dr s a k * 10 + (bt s (a + k) - 48)

theorem dr_lt (s : ByteArray) (a : Nat) (k : Nat) (h : ∀ i, i < k → bt s (a + i) ≤ 57) : dr s a k < 10 ^ k := by
  induction k with
  | zero => simp [dr]
  | succ k ih =>
    have h1 := ih (fun i hi => h i (by omega))
    have h2 := h k (by omega)
    simp only [dr, Nat.pow_succ]
    omega

theorem dr_add (s : ByteArray) (a m k : Nat) : dr s a (m + k) = dr s a m * 10 ^ k + dr s (a + m) k := by
  induction k with
  | zero => simp [dr]
  | succ k ih =>
    rw [← Nat.add_assoc]
    simp only [dr, ih, Nat.pow_succ]
    rw [Nat.add_mul, Nat.mul_assoc, Nat.add_assoc a m k]
    omega

theorem dr_congr {s t : ByteArray} {a b k : Nat} (h : ∀ i, i < k → bt s (a + i) = bt t (b + i)) : dr s a k = dr t b k := by
  induction k with
  | zero => rfl
  | succ k ih => simp only [dr, ih (fun i hi => h i (by omega)), h k (by omega)]

theorem pow_le9 {k : Nat} (h : k ≤ 8) : 10 ^ k ≤ 100000000 := by
  have : 10 ^ k ≤ 10 ^ 8 := Nat.pow_le_pow_right (by decide) h
  simpa using this

set_option maxRecDepth 100000 in
set_option maxHeartbeats 1600000 in
theorem value_any (s : ByteArray) (w : World) (hs : s.size ≤ 9) (hd : ∀ i, i < s.size → 48 ≤ bt s i ∧ bt s i ≤ 57) :
    Calls Tryz.prog 70 #[.string s] w fun e w' => e = .returned (.int .u32 (dr s 0 s.size)) ∧ w = w' := by
  have HD := hide hd
  clear hd
  go_enter Tryz.func70, Tryz.ntmps70
  go_wp2
  go_loop [3, 7] (fun n i => ∃ k : Nat, k ≤ s.size ∧ i = .int .i64 k ∧ n = .int .u32 (dr s 0 k)) (fun _ i => s.size - (intOf i).toNat)
  case atStart => exact ⟨0, Nat.zero_le _, rfl, rfl⟩
  case round =>
    obtain ⟨k, hk, rfl, rfl⟩ := hrel
    by_cases hkl : k < s.size
    · have hb := (unhide HD) k hkl
      have hlt := dr_lt s 0 k (fun i hi => ((unhide HD) (0 + i) (by omega)).2)
      have h8 := pow_le9 (k := k) (by omega)
      have hnew := hide (show dr s 0 (k + 1) = dr s 0 k * 10 + (bt s k - 48) from by simp [dr])
      rw [bt_eq s k hkl] at hb hnew
      generalize dr s 0 k = d at *
      go_wp2
      exact ⟨⟨k + 1, by omega, by go_num, by rw [unhide hnew]; congr 1; omega⟩, by simp [intOf]; omega⟩
    · obtain rfl : k = s.size := by omega
      go_wp2
      go_ret
      exact ⟨rfl, rfl⟩

set_option maxRecDepth 100000 in
set_option maxHeartbeats 1600000 in
theorem times_out {w0 w : World} {ad : Option Addr} {n cap : Nat} {X : List Int} {f p : Int} (h : Out w0 w ad n cap X) (hbig : n ≤ 1099511627776) (hf0 : 0 ≤ f) (hf1 : f < 4294967296) (hp0 : 0 ≤ p) (hp1 : p < 4294967296) :
    Calls Tryz.prog 69 #[.slice ad n cap, .int .u32 f, .int .u32 p] w fun e w' => ∃ Y cr, e = .returned (.int .u32 cr) ∧ 0 ≤ cr ∧ cr < 4294967296 ∧ Out w0 w' ad n cap Y ∧ val Y + cr * pw n = val X * f + p ∧ w'.heap.size = w.heap.size ∧ (∀ k, blk ad ≠ some k → w'.heap[k]? = w.heap[k]?) := by
  obtain ⟨hB, ⟨rfl, rfl, rfl, rfl⟩ | ⟨b, zs, rfl, hb, hr, hlz, hzl, hle, hm, rfl⟩⟩ := h
  · go_enter Tryz.func69, Tryz.ntmps69
    go_wp2
    refine wp_loop_rounds 1 ?_
    rw [rounds_succ]
    go_wp2
    go_ret
    refine ⟨[], p, rfl, hp0, hp1, ⟨hB, .inl ⟨rfl, rfl, rfl, rfl⟩⟩, ?_, rfl, fun _ _ => rfl⟩
    simp [val, vl, pw]
  · go_enter Tryz.func69, Tryz.ntmps69
    go_wp2
    go_loopw [7, 13] (fun c i wr => ∃ (k : Nat) (cr : Int) (zk : List Int), k ≤ n ∧ i = .int .i64 k ∧ c = .int .u64 cr ∧ 0 ≤ cr ∧ cr < 4294967296 ∧ zk.length = cap ∧ Limbs zk ∧ Row wr b zk ∧ Only b w wr ∧ (∀ t, k ≤ t → lz zk t = lz zs t) ∧ vl zk k + cr * pw k = vl zs k * f + p) (fun _ i _ => n - (intOf i).toNat)
    case atStart => exact ⟨0, p, zs, Nat.zero_le _, rfl, rfl, hp0, hp1, hzl, hlz, hr, Only.refl _ _, fun _ _ => rfl, by simp [vl, pw]⟩
    case round =>
      obtain ⟨k, cr, zk, hk, rfl, rfl, hc0, hc1, hkl, hkL, hrow, honly, hsame, hv⟩ := hrel
      have HV := hide hv
      have HS := hide hsame
      clear hv hsame
      by_cases hkn : k < n
      · have q := hrow.rd hkL (off := 0) (len := n) (cap := cap) (by omega) hle hm
        have hcell := hrow.cell (i := k) (by omega)
        have hfr := hrow.frozen k
        go_wp2_with fail
        refine (limb_any q (k : Int) (by omega) (by omega)).mono ?_
        rintro e w' ⟨rfl, rfl⟩
        rw [Int.toNat_natCast, List.drop_zero, lz_take, if_pos hkn]
        have B1 := lz_bd hkL k
        have B4 := mul_bd B1.1 B1.2 hf0 hf1
        have HN : Hid (vl (zk.set k ((cr + lz zk k * f) % 4294967296)) (k + 1) + ((cr + lz zk k * f) / 4294967296) * pw (k + 1) = vl zs (k + 1) * f + p) := by
          show _ = _
          rw [carry_step (by omega) (unhide HV), vl_succ, (unhide HS) k (Nat.le_refl _), Int.add_mul, Int.mul_right_comm]
          omega
        clear HV q
        go_wp2_with fail
        rw [mask64 _ (by omega) (by omega), Int.emod_emod_of_dvd _ (Int.dvd_refl _)]
        exact ⟨⟨k + 1, _, _, by omega, by go_num, rfl, by omega, by omega, by rw [List.length_set]; exact hkl, hkL.set k (by omega) (by omega), hrow.set k _, honly.trans (Only.set b k wr _), fun t ht => by rw [lz_set _ _ _ _ (by omega), if_neg (by omega)]; exact (unhide HS) t (by omega), unhide HN⟩, by simp [intOf]; omega⟩
      · obtain rfl : k = n := by omega
        go_wp2_with fail
        go_ret
        refine ⟨zk.take k, cr, rfl, hc0, hc1, ⟨hB.trans (honly.below hb), .inr ⟨b, zk, rfl, hb, hrow, hkL, hkl, hle, hm, rfl⟩⟩, ?_, honly.size, fun j hj => honly.block j (fun e => hj (by simp [blk, e]))⟩
        rw [val_take _ _ (by omega), val_take _ _ (by omega)]
        exact unhide HV

theorem bt_extract (s : ByteArray) (a b i : Nat) (hb : b ≤ s.size) (hi : a + i < b) : bt (s.extract a b) i = bt s (a + i) := by
  unfold bt
  have e : (s.extract a b).data = s.data.extract a b := by simp [ByteArray.data_extract]
  rw [e]
  have h2 : b ≤ s.data.size := hb
  have e2 : (s.data.extract a b).toList.getD i 0 = s.data.toList.getD (a + i) 0 := by
    simp only [List.getD_eq_getElem?_getD, Array.toList_extract, List.extract_eq_take_drop, List.getElem?_take, List.getElem?_drop]
    rw [if_pos (by omega)]
  rw [e2]

theorem val_snoc (Y : List Int) (cr : Int) : val (Y ++ [cr]) = val Y + cr * pw Y.length := by
  unfold val
  rw [List.length_append, List.length_singleton, vl_succ]
  have e1 : vl (Y ++ [cr]) Y.length = vl Y Y.length := vl_congr (fun i hi => by simp [lz, List.getD, List.getElem?_append_left hi])
  rw [e1, lz_snoc]

theorem dr_first (s : ByteArray) (m c : Nat) (h : m = 0 ∨ c = 9) : dr s 0 (m + c) = dr s 0 m * 1000000000 + dr s m c := by
  rw [dr_add, Nat.zero_add]
  rcases h with rfl | rfl
  · simp [dr]
  · rfl

theorem dr_pw (s : ByteArray) (k : Nat) (h : ∀ i, i < k → bt s (0 + i) ≤ 57) : (dr s 0 k : Int) < pw k := by
  have h1 := dr_lt s 0 k h
  have h2 : ((10 ^ k : Nat) : Int) ≤ pw k := by
    clear h h1
    induction k with
    | zero => decide
    | succ k ih => rw [Nat.pow_succ, pw_succ]; omega
  omega

theorem canon_len {zs : List Int} (h : Canon zs) {k : Nat} (hv : val zs < pw k) : zs.length ≤ k := by
  rcases Nat.lt_or_ge k zs.length with h1 | h1
  · have h2 := canon_low h (by omega)
    have h3 : pw k ≤ pw (zs.length - 1) := pw_mono (by omega)
    omega
  · exact h1

set_option maxRecDepth 100000 in
set_option maxHeartbeats 1600000 in
theorem parse_no (s : ByteArray) (w : World) (hs : s.size ≤ 9223372036854775807) (hok : ¬ okText s) :
    Calls Tryz.prog 46 #[.string s] w fun e w' => e = .returned (.tuple #[.slice none 0 0, .int .i64 12]) ∧ w = w' := by
  have HOK := hide hok
  clear hok
  go_enter Tryz.func46, Tryz.ntmps46
  go_wp2_with fail
  refine (isText_no s w hs (unhide HOK)).mono ?_
  rintro e w' ⟨rfl, rfl⟩
  go_wp2_with fail
  go_ret2
  exact ⟨rfl, rfl⟩

set_option maxRecDepth 100000 in
set_option maxHeartbeats 1600000 in
theorem parse_yes (s : ByteArray) (w : World) (hs : s.size ≤ 1099511627776) (hok : okText s) :
    Calls Tryz.prog 46 #[.string s] w fun e w' => ∃ ad len cap zs, e = .returned (.tuple #[.slice ad len cap, .int .i64 0]) ∧ Out w w' ad len cap zs ∧ Canon zs ∧ val zs = (dr s 0 s.size : Int) ∧ len ≤ s.size := by
  have HOK := hide hok
  clear hok
  go_enter Tryz.func46, Tryz.ntmps46
  go_wp2_with fail
  refine (isText_yes s w (by omega) (unhide HOK)).mono ?_
  rintro e w' ⟨rfl, rfl⟩
  go_wp2_with fail
  go_loopw [4, 5] (fun v i wr => ∃ (k : Nat) (ad : Option Addr) (n cap : Nat) (zs : List Int), k ≤ s.size ∧ i = .int .i64 k ∧ v = .slice ad n cap ∧ Out w wr ad n cap zs ∧ Canon zs ∧ val zs = (dr s 0 k : Int) ∧ n ≤ k ∧ (k = 0 ∨ (s.size - k) % 9 = 0)) (fun _ i _ => s.size - (intOf i).toNat)
  case atStart => exact ⟨0, none, 0, 0, [], Nat.zero_le _, rfl, rfl, out_none w, canon_nil, rfl, Nat.le_refl _, .inl rfl⟩
  case round =>
    obtain ⟨k, ad, n, cap, zs, hk, rfl, rfl, ho, hc, hv, hn, hmod⟩ := hrel
    have HV := hide hv
    have HM := hide hmod
    clear hv hmod
    by_cases hkl : k < s.size
    · obtain ⟨c, hc9⟩ : ∃ c, c = (s.size - k - 1) % 9 + 1 := ⟨_, rfl⟩
      have hcb : 1 ≤ c ∧ c ≤ 9 ∧ k + c ≤ s.size := by omega
      have hto : Hid ((k : Int) + ((s.size : Int) - (k : Int) - 1) % 9 + 1 = ((k + c : Nat) : Int)) := by
        show _ = _
        omega
      have hfc := hide (show k = 0 ∨ c = 9 from by
        rcases unhide HM with h | h
        · exact .inl h
        · exact .inr (by omega))
      have hmod' := hide (show (s.size - (k + c)) % 9 = 0 from by omega)
      have hsl : ∀ u : World, (Instr.slice 9 (.string s) (some (.int .i64 (k : Int))) (some (.int .i64 ((k : Int) + ((s.size : Int) - (k : Int) - 1) % 9 + 1))) none).run Tryz.prog u = .ok (.string (s.extract k (k + c))) u := fun u => by
        have := run_slice_string (P := Tryz.prog) u 9 s .i64 .i64 (k : Int) ((k : Int) + ((s.size : Int) - (k : Int) - 1) % 9 + 1) Tryz.underlying9 (by omega) (by omega) (by omega)
        rw [this, unhide hto, Int.toNat_natCast, Int.toNat_natCast]
      have hsx : (s.extract k (k + c)).size = c := by rw [ByteArray.size_extract]; omega
      have hdg : ∀ i, i < (s.extract k (k + c)).size → 48 ≤ bt (s.extract k (k + c)) i ∧ bt (s.extract k (k + c)) i ≤ 57 := fun i hi => by
        rw [bt_extract s k (k + c) i (by omega) (by omega)]
        exact (unhide HOK).2.2 (k + i) (by omega)
      have hdx : Hid (dr (s.extract k (k + c)) 0 (s.extract k (k + c)).size = dr s k c) := by
        show _ = _
        rw [hsx]
        exact dr_congr (fun i hi => by rw [Nat.zero_add, bt_extract s k (k + c) i (by omega) (by omega)])
      have hdl : dr s k c < 10 ^ c := dr_lt s k c (fun i hi => ((unhide HOK).2.2 (k + i) (by omega)).2)
      have hdb : dr s k c < 1000000000 := by
        have : 10 ^ c ≤ 10 ^ 9 := Nat.pow_le_pow_right (by decide) (by omega)
        simp at this
        omega
      have hval := hide (dr_first s k c (unhide hfc))
      have hpwc := hide (dr_pw s (k + c) (fun i hi => ((unhide HOK).2.2 (0 + i) (by omega)).2))
      have hsx9 : (s.extract k (k + c)).size ≤ 9 := by omega
      have HDG := hide hdg
      clear hc9 hdl hsx hdg
      go_wp2_with fail
      refine (value_any _ wr hsx9 (unhide HDG)).mono ?_
      rintro e w' ⟨rfl, rfl⟩
      rw [unhide hdx]
      generalize hgv : dr s k c = g at *
      have HG := hide hgv
      clear hgv
      go_wp2_with fail
      refine (times_out (f := 1000000000) (p := (g : Int)) ho (by omega) (by decide) (by decide) (by omega) (by omega)).mono ?_
      rintro e w2 ⟨Y, cr, rfl, hcr0, hcr1, hoY, hvY, hsz2, hfr2⟩
      have HVY := hide hvY
      have hYl := hide hoY.rd.1
      clear hvY hsz2 hfr2 hsl
      go_wp2_with (at_builtin; refine wpList_append_run rfl _ _ 24 rfl _ _ rfl rfl _ (run_append_one hoY _ cr hcr0 hcr1 (by omega)) ?_; rintro v' w3 ⟨ad', cap', rfl, ho3, hfr3, hsz3, hbk3⟩)
      clear hfr3 hbk3 hsz3
      refine (bare_out ho3).mono ?_
      rintro e w4 ⟨rfl, rfl⟩
      obtain ⟨ho4, hc4⟩ := ho3.trimmed
      have hv4 : Hid (val (trim (Y ++ [cr])) = (dr s 0 (k + c) : Int)) := by
        show _ = _
        have e1 := unhide HVY
        have e2 := unhide HV
        have e3 := unhide hval
        rw [val_trim, val_snoc, unhide hYl, e1, e2]
        omega
      have hn4 : Hid (tl (Y ++ [cr]) (n + 1) ≤ k + c) := by
        show _ ≤ _
        rw [← ho4.rd.1]
        exact canon_len hc4 (by rw [unhide hv4]; exact unhide hpwc)
      have HO4 := hide ho4
      have HC4 := hide hc4
      clear ho3 ho4 hc4
      go_wp2_with fail
      go_roundw
      case rel => exact ⟨k + c, _, _, _, _, by omega, by rw [← unhide hto], rfl, unhide HO4, unhide HC4, unhide hv4, unhide hn4, .inr (unhide hmod')⟩
      case measure => simp [intOf]; omega
    · obtain rfl : k = s.size := by omega
      go_wp2_with fail
      go_ret2
      exact ⟨_, _, _, _, rfl, ho, hc, unhide HV, hn⟩
end Go.Proofs.YtgkacepahfjeeaaGreatDoor
