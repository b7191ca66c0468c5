/-
  The walk of the law NatTexts.
-/
import Derived.Test.YtpkbdfdbmeilpabDoorN1
import Derived.Test.YtpkbdfdbmeilpabDoorK2
namespace Go.Proofs.YtpkbdfdbmeilpabDoor
open Go.RowKit

theorem less_self (l : List UInt8) : Op.bytesLess l l = false := by
  induction l with
  | nil => rfl
  | cons c l ih => simp [Op.bytesLess, ih]

/-- what the law asks of two texts, by the order of the numbers -/
theorem text_cases (a b : Nat) : (a < b ∧ ((Lib.decDigits a).length < (Lib.decDigits b).length ∨ ((Lib.decDigits a).length = (Lib.decDigits b).length ∧ Op.bytesLess (Lib.decDigits a) (Lib.decDigits b) = true ∧ (Lib.decDigits a == Lib.decDigits b) = false))) ∨
    (a = b) ∨ (b < a ∧ ((Lib.decDigits b).length < (Lib.decDigits a).length ∨ ((Lib.decDigits a).length = (Lib.decDigits b).length ∧ Op.bytesLess (Lib.decDigits a) (Lib.decDigits b) = false ∧ (Lib.decDigits a == Lib.decDigits b) = false))) := by
  rcases Nat.lt_trichotomy a b with h | h | h
  · refine .inl ⟨h, ?_⟩
    have h1 := dec_len_mono h
    by_cases h2 : (Lib.decDigits a).length = (Lib.decDigits b).length
    · exact .inr ⟨h2, by rw [dec_less a b h2]; simp [h], by rw [beq_eq_false_iff_ne]; exact fun e => by have := dec_inj e; omega⟩
    · exact .inl (by omega)
  · exact .inr (.inl h)
  · refine .inr (.inr ⟨h, ?_⟩)
    have h1 := dec_len_mono h
    by_cases h2 : (Lib.decDigits a).length = (Lib.decDigits b).length
    · exact .inr ⟨h2, by rw [dec_less a b h2]; simp; omega, by rw [beq_eq_false_iff_ne]; exact fun e => by have := dec_inj e; omega⟩
    · exact .inl (by omega)

set_option maxRecDepth 100000 in
set_option maxHeartbeats 3200000 in
theorem natTexts_walk {aa ab : Option Addr} {la ca lb cb : Nat} {a b : Int} {w : World} (ha : Nm w aa la ca a) (hb : Nm w ab lb cb b) (hla : la ≤ 1048576) (hlb : lb ≤ 1048576) (htab : Tab w) :
    Calls Tryd.prog 5 #[.slice aa la ca, .slice ab lb cb] w fun e w' => e = .returned (.bool true) ∧ Below w.heap.size w w' := by
  obtain ⟨A, hA⟩ := Int.eq_ofNat_of_zero_le ha.nonneg
  obtain ⟨B, hB⟩ := Int.eq_ofNat_of_zero_le hb.nonneg
  subst hA hB
  have sA : (Lib.decDigits A).length ≤ 10 * (la + 1) := by
    obtain ⟨xs, h1, h2⟩ := ha
    refine dec_len_pw ?_ (by omega)
    have h3 := (vl_bd h1.2.2.2.1 la).2
    have e : vl xs la = val xs := by unfold val; rw [h1.1]
    rw [pw_succ]
    have := pw_pos la
    omega
  have sB : (Lib.decDigits B).length ≤ 10 * (lb + 1) := by
    obtain ⟨xs, h1, h2⟩ := hb
    refine dec_len_pw ?_ (by omega)
    have h3 := (vl_bd h1.2.2.2.1 lb).2
    have e : vl xs lb = val xs := by unfold val; rw [h1.1]
    rw [pw_succ]
    have := pw_pos lb
    omega
  go_enter Tryd.func5, Tryd.ntmps5
  go_wp2_with fail
  refine (text_n ha (by omega) htab).mono ?_
  rintro e w1 ⟨rfl, b1⟩
  rw [Int.toNat_natCast]
  replace ha := ha.below b1
  replace hb := hb.below b1
  replace htab := htab.below b1
  go_wp2_with fail
  refine (text_n hb (by omega) htab).mono ?_
  rintro e w2 ⟨rfl, b2⟩
  rw [Int.toNat_natCast]
  replace ha := ha.below b2
  replace hb := hb.below b2
  replace htab := htab.below b2
  replace b2 := b1.trans (b2.mono b1.size)
  clear b1
  go_wp2_with fail
  refine (parse_n ⟨(Lib.decDigits A).toArray⟩ w2 (by rw [size_list']; omega) (dec_ok A)).mono ?_
  rintro e w3 ⟨ax, lx, cx, rfl, X, b3, kx⟩
  rw [dec_dr] at X
  replace ha := ha.below b3
  replace hb := hb.below b3
  replace htab := htab.below b3
  replace b3 := b2.trans (b3.mono b2.size)
  clear b2
  go_wp2_with fail
  refine (parse_n ⟨(Lib.decDigits B).toArray⟩ w3 (by rw [size_list']; omega) (dec_ok B)).mono ?_
  rintro e w4 ⟨ay, ly, cy, rfl, Y, b4, ky⟩
  rw [dec_dr] at Y
  replace ha := ha.below b4
  replace hb := hb.below b4
  replace X := X.below b4
  replace htab := htab.below b4
  replace b4 := b3.trans (b4.mono b3.size)
  clear b3
  go_wp2_with fail
  refine (cmp_0 X.nm ha rfl).mono ?_
  rintro e w5 ⟨rfl, b5⟩
  replace ha := ha.below b5
  replace hb := hb.below b5
  replace Y := Y.below b5
  replace htab := htab.below b5
  replace b5 := b4.trans (b5.mono b4.size)
  clear b4 X
  go_wp2_with fail
  refine (cmp_0 Y.nm hb rfl).mono ?_
  rintro e w6 ⟨rfl, b6⟩
  replace ha := ha.below b6
  replace hb := hb.below b6
  replace htab := htab.below b6
  replace b6 := b5.trans (b6.mono b5.size)
  clear b5 Y
  have tc := text_cases A B
  have hST : A = B → Lib.decDigits A = Lib.decDigits B := fun h => by rw [h]
  generalize Lib.decDigits A = S at *
  generalize Lib.decDigits B = T at *
  rcases tc with ⟨h1, h2 | ⟨h2, h3, h4⟩⟩ | hAB | ⟨h1, h2 | ⟨h2, h3, h4⟩⟩
  · have q1 : (A : Int) < (B : Int) := by omega
    clear hST
    go_wp2_with fail
    refine (cmp_lt ha hb (q1)).mono ?_
    rintro e w7 ⟨rfl, b7⟩
    replace htab := htab.below b7
    replace b7 := b6.trans (b7.mono b6.size)
    clear b6
    go_wp2_with fail
    refine (known_any w7 htab).mono ?_
    rintro e w8 ⟨rfl, b8⟩
    replace b8 := b7.trans (b8.mono b7.size)
    clear htab b7
    go_wp2_with fail
    go_ret
    exact ⟨rfl, b8⟩
  · have q1 : (A : Int) < (B : Int) := by omega
    clear hST
    go_wp2_with fail
    refine (cmp_lt ha hb (q1)).mono ?_
    rintro e w7 ⟨rfl, b7⟩
    replace htab := htab.below b7
    replace b7 := b6.trans (b7.mono b6.size)
    clear b6
    go_wp2_with fail
    refine (known_any w7 htab).mono ?_
    rintro e w8 ⟨rfl, b8⟩
    replace b8 := b7.trans (b8.mono b7.size)
    clear htab b7
    go_wp2_with fail
    go_ret
    exact ⟨rfl, b8⟩
  · have e := hST hAB
    subst e
    subst hAB
    have hlt : Op.bytesLess S S = false := less_self S
    clear hST
    go_wp2_with fail
    refine (cmp_0 ha hb (rfl)).mono ?_
    rintro e w7 ⟨rfl, b7⟩
    replace htab := htab.below b7
    replace b7 := b6.trans (b7.mono b6.size)
    clear b6
    go_wp2_with fail
    refine (known_any w7 htab).mono ?_
    rintro e w8 ⟨rfl, b8⟩
    replace b8 := b7.trans (b8.mono b7.size)
    clear htab b7
    go_wp2_with fail
    go_ret
    exact ⟨rfl, b8⟩
  · have q1 : (B : Int) < (A : Int) := by omega
    clear hST
    go_wp2_with fail
    refine (cmp_gt ha hb (q1)).mono ?_
    rintro e w7 ⟨rfl, b7⟩
    replace htab := htab.below b7
    replace b7 := b6.trans (b7.mono b6.size)
    clear b6
    go_wp2_with fail
    refine (known_any w7 htab).mono ?_
    rintro e w8 ⟨rfl, b8⟩
    replace b8 := b7.trans (b8.mono b7.size)
    clear htab b7
    go_wp2_with fail
    go_ret
    exact ⟨rfl, b8⟩
  · have q1 : (B : Int) < (A : Int) := by omega
    clear hST
    go_wp2_with fail
    refine (cmp_gt ha hb (q1)).mono ?_
    rintro e w7 ⟨rfl, b7⟩
    replace htab := htab.below b7
    replace b7 := b6.trans (b7.mono b6.size)
    clear b6
    go_wp2_with fail
    refine (known_any w7 htab).mono ?_
    rintro e w8 ⟨rfl, b8⟩
    replace b8 := b7.trans (b8.mono b7.size)
    clear htab b7
    go_wp2_with fail
    go_ret
    exact ⟨rfl, b8⟩
end Go.Proofs.YtpkbdfdbmeilpabDoor
