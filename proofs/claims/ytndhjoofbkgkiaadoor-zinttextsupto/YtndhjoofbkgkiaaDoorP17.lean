/-
 Walks of the reference package: Parse.
-/
import Derived.Test.YtndhjoofbkgkiaaDoorP11
namespace Go.Proofs.YtndhjoofbkgkiaaDoor
open Go.RowKit

set_option maxRecDepth 100000 in
set_option maxHeartbeats 3200000 in
theorem refparse_yes (s : ByteArray) (w : World) (hs : s.size ≤ 17179869184) (hok : okText s) :
  Calls Tryd.prog 56 #[.string s] w fun e w' => ∃ ad len cap zs, e = .returned (.tuple #[.slice ad len cap, .bool true]) ∧ Out w w' ad len cap zs ∧ Canon zs ∧ val zs = (dr s 0 s.size : Int) ∧ len ≤ s.size := by
 obtain ⟨h0, h1, h2⟩ := hok
 have e0 := bt_eq s 0 h0
 have H2 := hide h2
 have hne := ne_empty h0
 by_cases h11 : 1 < s.size
 ·have hb0 : (((s[0]'h0).toNat : Int) == 48) = false := by
   rw [beq_eq_false_iff_ne]
   intro h
   exact h1 ⟨h11, by omega⟩
  have hd1 : decide ((1 : Int) < (s.size : Int)) = true := by simp; omega
  clear h1 h2 e0
  go_enter Tryd.func56, Tryd.ntmps56
  go_wp2_with fail
  go_loop [5] (fun i => ∃ k : Nat, k ≤ s.size ∧ i = .int .i64 k) (fun i => s.size - (intOf i).toNat)
  case atStart => exact ⟨0, Nat.zero_le _, rfl⟩
  case round =>
   obtain ⟨k, hk, rfl⟩ := hrel
   by_cases hkl : k < s.size
   ·have hb := (unhide H2) k hkl
    rw [bt_eq s k hkl] at hb
    have hk1 : decide (((s[k]'hkl).toNat : Int) < 48) = false := by simp; omega
    have hk2 : decide ((57 : Int) < ((s[k]'hkl).toNat : Int)) = false := by simp; omega
    clear hb
    go_wp2_with fail
    exact ⟨⟨k + 1, by omega, by go_num⟩, by simp [intOf]; omega⟩
   ·go_wp2_with fail
    go_loopw [4, 6] (fun o i wr => ∃ (k : Nat) (ad : Option Addr) (len cap : Nat) (zs : List Int), k ≤ s.size ∧ i = .int .i64 k ∧ o = .slice ad len cap ∧ Out w wr ad len cap zs ∧ Canon zs ∧ Hid (val zs = (dr s 0 k : Int)) ∧ len ≤ k) (fun _ i _ => s.size - (intOf i).toNat)
    case atStart => exact ⟨0, none, 0, 0, [], Nat.zero_le _, rfl, rfl, out_nil w, canon_nil, (by show _ = _; rfl), Nat.le_refl _⟩
    case round =>
     obtain ⟨j, ad, len, cap, zs, hj, rfl, rfl, hO, hcn, HV, hlen⟩ := hrel
     by_cases hjl : j < s.size
     ·have hb := (unhide H2) j hjl
      have hbt := bt_eq s j hjl
      have HB := hide hbt
      rw [hbt] at hb
      clear hbt
      have hb0 : (48 : Int) ≤ ((s[j]'hjl).toNat : Int) := by omega
      have hb1 : ((s[j]'hjl).toNat : Int) ≤ 57 := by omega
      clear hb
      go_wp2_with fail
      refine (reftimes_any (n := 10) (m := ((s[j]'hjl).toNat : Int) - 48) hO.rd (by omega) (by decide) (by decide) (by omega) (by omega)).mono ?_
      rintro e w4 ⟨a4, l4, c4, z4, rfl, ho4, hc4, hv4, hl4⟩
      have hd : val z4 = (dr s 0 (j + 1) : Int) := by
       rw [hv4, HV.out]
       show _ = ((dr s 0 j * 10 + (bt s (0 + j) - 48) : Nat) : Int)
       rw [Nat.zero_add, unhide HB]
       omega
      have hl5 : l4 ≤ j + 1 := by
       rw [← ho4.rd.1]
       refine canon_len hc4 ?_
       rw [hd]
       exact dr_pw s (j + 1) (fun i hi => by rw [Nat.zero_add]; exact ((unhide H2) i (by omega)).2)
      have HD := hide hd
      clear hd hv4
      go_wp2_with fail
      exact ⟨⟨j + 1, a4, l4, c4, z4, by omega, by go_num, rfl, ho4.outer hO.1, hc4, HD, hl5⟩, by simp [intOf]; omega⟩
     ·obtain rfl : j = s.size := by omega
      go_wp2_with fail
      refine bodyPost_ret (results_tmp2 rfl _ _ _) rfl ?_
      exact ⟨ad, len, cap, zs, rfl, hO, hcn, HV.out, hlen⟩
 ·have hd1 : decide ((1 : Int) < (s.size : Int)) = false := by simp; omega
  clear h1 h2 e0
  cases hb0 : (((s[0]'h0).toNat : Int) == 48)
  ·go_enter Tryd.func56, Tryd.ntmps56
   go_wp2_with fail
   go_loop [5] (fun i => ∃ k : Nat, k ≤ s.size ∧ i = .int .i64 k) (fun i => s.size - (intOf i).toNat)
   case atStart => exact ⟨0, Nat.zero_le _, rfl⟩
   case round =>
    obtain ⟨k, hk, rfl⟩ := hrel
    by_cases hkl : k < s.size
    ·have hb := (unhide H2) k hkl
     rw [bt_eq s k hkl] at hb
     have hk1 : decide (((s[k]'hkl).toNat : Int) < 48) = false := by simp; omega
     have hk2 : decide ((57 : Int) < ((s[k]'hkl).toNat : Int)) = false := by simp; omega
     clear hb
     go_wp2_with fail
     exact ⟨⟨k + 1, by omega, by go_num⟩, by simp [intOf]; omega⟩
    ·go_wp2_with fail
     go_loopw [4, 6] (fun o i wr => ∃ (k : Nat) (ad : Option Addr) (len cap : Nat) (zs : List Int), k ≤ s.size ∧ i = .int .i64 k ∧ o = .slice ad len cap ∧ Out w wr ad len cap zs ∧ Canon zs ∧ Hid (val zs = (dr s 0 k : Int)) ∧ len ≤ k) (fun _ i _ => s.size - (intOf i).toNat)
     case atStart => exact ⟨0, none, 0, 0, [], Nat.zero_le _, rfl, rfl, out_nil w, canon_nil, (by show _ = _; rfl), Nat.le_refl _⟩
     case round =>
      obtain ⟨j, ad, len, cap, zs, hj, rfl, rfl, hO, hcn, HV, hlen⟩ := hrel
      by_cases hjl : j < s.size
      ·have hb := (unhide H2) j hjl
       have hbt := bt_eq s j hjl
       have HB := hide hbt
       rw [hbt] at hb
       clear hbt
       have hb0 : (48 : Int) ≤ ((s[j]'hjl).toNat : Int) := by omega
       have hb1 : ((s[j]'hjl).toNat : Int) ≤ 57 := by omega
       clear hb
       go_wp2_with fail
       refine (reftimes_any (n := 10) (m := ((s[j]'hjl).toNat : Int) - 48) hO.rd (by omega) (by decide) (by decide) (by omega) (by omega)).mono ?_
       rintro e w4 ⟨a4, l4, c4, z4, rfl, ho4, hc4, hv4, hl4⟩
       have hd : val z4 = (dr s 0 (j + 1) : Int) := by
        rw [hv4, HV.out]
        show _ = ((dr s 0 j * 10 + (bt s (0 + j) - 48) : Nat) : Int)
        rw [Nat.zero_add, unhide HB]
        omega
       have hl5 : l4 ≤ j + 1 := by
        rw [← ho4.rd.1]
        refine canon_len hc4 ?_
        rw [hd]
        exact dr_pw s (j + 1) (fun i hi => by rw [Nat.zero_add]; exact ((unhide H2) i (by omega)).2)
       have HD := hide hd
       clear hd hv4
       go_wp2_with fail
       exact ⟨⟨j + 1, a4, l4, c4, z4, by omega, by go_num, rfl, ho4.outer hO.1, hc4, HD, hl5⟩, by simp [intOf]; omega⟩
      ·obtain rfl : j = s.size := by omega
       go_wp2_with fail
       refine bodyPost_ret (results_tmp2 rfl _ _ _) rfl ?_
       exact ⟨ad, len, cap, zs, rfl, hO, hcn, HV.out, hlen⟩

  ·go_enter Tryd.func56, Tryd.ntmps56
   go_wp2_with fail
   go_loop [5] (fun i => ∃ k : Nat, k ≤ s.size ∧ i = .int .i64 k) (fun i => s.size - (intOf i).toNat)
   case atStart => exact ⟨0, Nat.zero_le _, rfl⟩
   case round =>
    obtain ⟨k, hk, rfl⟩ := hrel
    by_cases hkl : k < s.size
    ·have hb := (unhide H2) k hkl
     rw [bt_eq s k hkl] at hb
     have hk1 : decide (((s[k]'hkl).toNat : Int) < 48) = false := by simp; omega
     have hk2 : decide ((57 : Int) < ((s[k]'hkl).toNat : Int)) = false := by simp; omega
     clear hb
     go_wp2_with fail
     exact ⟨⟨k + 1, by omega, by go_num⟩, by simp [intOf]; omega⟩
    ·go_wp2_with fail
     go_loopw [4, 6] (fun o i wr => ∃ (k : Nat) (ad : Option Addr) (len cap : Nat) (zs : List Int), k ≤ s.size ∧ i = .int .i64 k ∧ o = .slice ad len cap ∧ Out w wr ad len cap zs ∧ Canon zs ∧ Hid (val zs = (dr s 0 k : Int)) ∧ len ≤ k) (fun _ i _ => s.size - (intOf i).toNat)
     case atStart => exact ⟨0, none, 0, 0, [], Nat.zero_le _, rfl, rfl, out_nil w, canon_nil, (by show _ = _; rfl), Nat.le_refl _⟩
     case round =>
      obtain ⟨j, ad, len, cap, zs, hj, rfl, rfl, hO, hcn, HV, hlen⟩ := hrel
      by_cases hjl : j < s.size
      ·have hb := (unhide H2) j hjl
       have hbt := bt_eq s j hjl
       have HB := hide hbt
       rw [hbt] at hb
       clear hbt
       have hb0 : (48 : Int) ≤ ((s[j]'hjl).toNat : Int) := by omega
       have hb1 : ((s[j]'hjl).toNat : Int) ≤ 57 := by omega
       clear hb
       go_wp2_with fail
       refine (reftimes_any (n := 10) (m := ((s[j]'hjl).toNat : Int) - 48) hO.rd (by omega) (by decide) (by decide) (by omega) (by omega)).mono ?_
       rintro e w4 ⟨a4, l4, c4, z4, rfl, ho4, hc4, hv4, hl4⟩
       have hd : val z4 = (dr s 0 (j + 1) : Int) := by
        rw [hv4, HV.out]
        show _ = ((dr s 0 j * 10 + (bt s (0 + j) - 48) : Nat) : Int)
        rw [Nat.zero_add, unhide HB]
        omega
       have hl5 : l4 ≤ j + 1 := by
        rw [← ho4.rd.1]
        refine canon_len hc4 ?_
        rw [hd]
        exact dr_pw s (j + 1) (fun i hi => by rw [Nat.zero_add]; exact ((unhide H2) i (by omega)).2)
       have HD := hide hd
       clear hd hv4
       go_wp2_with fail
       exact ⟨⟨j + 1, a4, l4, c4, z4, by omega, by go_num, rfl, ho4.outer hO.1, hc4, HD, hl5⟩, by simp [intOf]; omega⟩
      ·obtain rfl : j = s.size := by omega
       go_wp2_with fail
       refine bodyPost_ret (results_tmp2 rfl _ _ _) rfl ?_
       exact ⟨ad, len, cap, zs, rfl, hO, hcn, HV.out, hlen⟩

set_option maxRecDepth 100000 in
set_option maxHeartbeats 3200000 in
theorem refparse_no (s : ByteArray) (w : World) (hs : s.size ≤ 9223372036854775807) (hok : ¬ okText s) :
  Calls Tryd.prog 56 #[.string s] w fun e w' => e = .returned (.tuple #[.slice none 0 0, .bool false]) ∧ w = w' := by
 by_cases h0 : s.size = 0
 ·have hne := is_empty h0
  clear hok
  go_enter Tryd.func56, Tryd.ntmps56
  go_wp2_with fail
  refine bodyPost_ret (results_tmp2 rfl _ _ _) rfl ?_
  exact ⟨rfl, rfl⟩
 ·have hpos : 0 < s.size := by omega
  have hne := ne_empty hpos
  have e0 := bt_eq s 0 hpos
  have HP := hide h0
  clear h0
  by_cases h1 : 1 < s.size ∧ bt s 0 = 48
  ·have h11 := h1.1
   have hb0 : (((s[0]'hpos).toNat : Int) == 48) = true := by
    rw [beq_iff_eq]
    have := h1.2
    omega
   have hd1 : decide ((1 : Int) < (s.size : Int)) = true := by simp; omega
   clear hok h1 e0
   go_enter Tryd.func56, Tryd.ntmps56
   go_wp2_with fail
   refine bodyPost_ret (results_tmp2 rfl _ _ _) rfl ?_
   exact ⟨rfl, rfl⟩
  ·have hbad : Hid (¬ ∀ i, i < s.size → 48 ≤ bt s i ∧ bt s i ≤ 57) := fun h => hok ⟨hpos, h1, h⟩
   by_cases h11 : 1 < s.size
   ·have hb0 : (((s[0]'hpos).toNat : Int) == 48) = false := by
     rw [beq_eq_false_iff_ne]
     intro h
     exact h1 ⟨h11, by omega⟩
    have hd1 : decide ((1 : Int) < (s.size : Int)) = true := by simp; omega
    clear hok h1 e0
    go_enter Tryd.func56, Tryd.ntmps56
    go_wp2_with fail
    go_loop [5] (fun i => ∃ k : Nat, k ≤ s.size ∧ i = .int .i64 k ∧ ∀ j, j < k → 48 ≤ bt s j ∧ bt s j ≤ 57) (fun i => s.size - (intOf i).toNat)
    case atStart => exact ⟨0, Nat.zero_le _, rfl, fun j hj => absurd hj (by omega)⟩
    case round =>
     obtain ⟨k, hk, rfl, hg⟩ := hrel
     have HG := hide hg
     clear hg
     by_cases hkl : k < s.size
     ·have ek := bt_eq s k hkl
      by_cases hc1 : bt s k < 48
      ·have hk1 : decide (((s[k]'hkl).toNat : Int) < 48) = true := by simp; omega
       clear ek hc1
       go_wp2_with fail
       refine bodyPost_ret (results_tmp2 rfl _ _ _) rfl ?_
       exact ⟨rfl, rfl⟩
      ·by_cases hc2 : 57 < bt s k
       ·have hk1 : decide (((s[k]'hkl).toNat : Int) < 48) = false := by simp; omega
        have hk2 : decide ((57 : Int) < ((s[k]'hkl).toNat : Int)) = true := by simp; omega
        clear ek hc1 hc2
        go_wp2_with fail
        refine bodyPost_ret (results_tmp2 rfl _ _ _) rfl ?_
        exact ⟨rfl, rfl⟩
       ·have hk1 : decide (((s[k]'hkl).toNat : Int) < 48) = false := by simp; omega
        have hk2 : decide ((57 : Int) < ((s[k]'hkl).toNat : Int)) = false := by simp; omega
        have HN := hide (show 48 ≤ bt s k ∧ bt s k ≤ 57 from by omega)
        clear ek hc1 hc2
        go_wp2_with fail
        exact ⟨⟨k + 1, by omega, by go_num, fun j hj => (by by_cases e : j = k; { rw [e]; exact unhide HN }; { exact (unhide HG) j (by omega) })⟩, by simp [intOf]; omega⟩
     ·exact absurd (fun i hi => (unhide HG) i (by omega)) (unhide hbad)
   ·have hd1 : decide ((1 : Int) < (s.size : Int)) = false := by simp; omega
    clear hok h1 e0
    cases hb0 : (((s[0]'hpos).toNat : Int) == 48)
    ·go_enter Tryd.func56, Tryd.ntmps56
     go_wp2_with fail
     go_loop [5] (fun i => ∃ k : Nat, k ≤ s.size ∧ i = .int .i64 k ∧ ∀ j, j < k → 48 ≤ bt s j ∧ bt s j ≤ 57) (fun i => s.size - (intOf i).toNat)
     case atStart => exact ⟨0, Nat.zero_le _, rfl, fun j hj => absurd hj (by omega)⟩
     case round =>
      obtain ⟨k, hk, rfl, hg⟩ := hrel
      have HG := hide hg
      clear hg
      by_cases hkl : k < s.size
      ·have ek := bt_eq s k hkl
       by_cases hc1 : bt s k < 48
       ·have hk1 : decide (((s[k]'hkl).toNat : Int) < 48) = true := by simp; omega
        clear ek hc1
        go_wp2_with fail
        refine bodyPost_ret (results_tmp2 rfl _ _ _) rfl ?_
        exact ⟨rfl, rfl⟩
       ·by_cases hc2 : 57 < bt s k
        ·have hk1 : decide (((s[k]'hkl).toNat : Int) < 48) = false := by simp; omega
         have hk2 : decide ((57 : Int) < ((s[k]'hkl).toNat : Int)) = true := by simp; omega
         clear ek hc1 hc2
         go_wp2_with fail
         refine bodyPost_ret (results_tmp2 rfl _ _ _) rfl ?_
         exact ⟨rfl, rfl⟩
        ·have hk1 : decide (((s[k]'hkl).toNat : Int) < 48) = false := by simp; omega
         have hk2 : decide ((57 : Int) < ((s[k]'hkl).toNat : Int)) = false := by simp; omega
         have HN := hide (show 48 ≤ bt s k ∧ bt s k ≤ 57 from by omega)
         clear ek hc1 hc2
         go_wp2_with fail
         exact ⟨⟨k + 1, by omega, by go_num, fun j hj => (by by_cases e : j = k; { rw [e]; exact unhide HN }; { exact (unhide HG) j (by omega) })⟩, by simp [intOf]; omega⟩
      ·exact absurd (fun i hi => (unhide HG) i (by omega)) (unhide hbad)
    ·go_enter Tryd.func56, Tryd.ntmps56
     go_wp2_with fail
     go_loop [5] (fun i => ∃ k : Nat, k ≤ s.size ∧ i = .int .i64 k ∧ ∀ j, j < k → 48 ≤ bt s j ∧ bt s j ≤ 57) (fun i => s.size - (intOf i).toNat)
     case atStart => exact ⟨0, Nat.zero_le _, rfl, fun j hj => absurd hj (by omega)⟩
     case round =>
      obtain ⟨k, hk, rfl, hg⟩ := hrel
      have HG := hide hg
      clear hg
      by_cases hkl : k < s.size
      ·have ek := bt_eq s k hkl
       by_cases hc1 : bt s k < 48
       ·have hk1 : decide (((s[k]'hkl).toNat : Int) < 48) = true := by simp; omega
        clear ek hc1
        go_wp2_with fail
        refine bodyPost_ret (results_tmp2 rfl _ _ _) rfl ?_
        exact ⟨rfl, rfl⟩
       ·by_cases hc2 : 57 < bt s k
        ·have hk1 : decide (((s[k]'hkl).toNat : Int) < 48) = false := by simp; omega
         have hk2 : decide ((57 : Int) < ((s[k]'hkl).toNat : Int)) = true := by simp; omega
         clear ek hc1 hc2
         go_wp2_with fail
         refine bodyPost_ret (results_tmp2 rfl _ _ _) rfl ?_
         exact ⟨rfl, rfl⟩
        ·have hk1 : decide (((s[k]'hkl).toNat : Int) < 48) = false := by simp; omega
         have hk2 : decide ((57 : Int) < ((s[k]'hkl).toNat : Int)) = false := by simp; omega
         have HN := hide (show 48 ≤ bt s k ∧ bt s k ≤ 57 from by omega)
         clear ek hc1 hc2
         go_wp2_with fail
         exact ⟨⟨k + 1, by omega, by go_num, fun j hj => (by by_cases e : j = k; { rw [e]; exact unhide HN }; { exact (unhide HG) j (by omega) })⟩, by simp [intOf]; omega⟩
      ·exact absurd (fun i hi => (unhide HG) i (by omega)) (unhide hbad)

end Go.Proofs.YtndhjoofbkgkiaaDoor
