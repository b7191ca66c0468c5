/-
 Layer 6: how long forms are, and what variables they have. No program in it.
-/
import Derived.Test.YtjlkmjonadkkdaaGreatDoorP17
namespace Go.Proofs.YtjlkmjonadkkdaaGreatDoor.At
open Tm

theorem nodup_len : ∀ {l m : List Int}, l.Nodup → (∀ x ∈ l, x ∈ m) → l.length ≤ m.length
 | [], _, _, _ => Nat.zero_le _
 | x :: l, m, h, hs => by
  obtain ⟨h1, h2⟩ := List.nodup_cons.1 h
  have hx := hs x (by simp)
  have h3 := nodup_len (l := l) (m := m.erase x) h2 fun y hy => by
   have hy' := hs y (by simp [hy])
   exact (List.mem_erase_of_ne (fun (e : y = x) => h1 (e ▸ hy))).2 hy'
  rw [List.length_erase_of_mem hx] at h3
  have hm : 0 < m.length := List.length_pos_of_mem hx
  simp only [List.length_cons]
  omega
theorem std_len {ps qs : List (Int × Int)} (hS : Std qs) (hc : ∀ v, csum qs v = csum ps v) : qs.length ≤ ps.length := by
 have h := nodup_len (l := qs.map Prod.fst) (m := ps.map Prod.fst) (List.pairwise_map.2 (hS.1.imp fun h => by omega)) fun x hx => by
  obtain ⟨q, hq, rfl⟩ := List.mem_map.1 hx
  have h0 : csum ps q.1 ≠ 0 := by rw [← hc, std_csum_mem hS hq]; exact hS.2 q hq
  obtain ⟨p, hp, e⟩ := csum_mem h0
  exact List.mem_map.2 ⟨p, hp, e⟩
 simpa using h
/-- no longer, and with no other variables -/
def Prt (rs qs : List (Int × Int)) : Prop := rs.length ≤ qs.length ∧ ∀ v, csum rs v ≠ 0 → csum qs v ≠ 0
theorem prt_nil (qs : List (Int × Int)) : Prt [] qs := ⟨Nat.zero_le _, fun _ h => absurd rfl h⟩
theorem prt_refl (qs : List (Int × Int)) : Prt qs qs := ⟨Nat.le_refl _, fun _ h => h⟩
theorem prt_each {F : Int → Int} {qs : List (Int × Int)} (hS : Std qs) : Prt (eachP F qs) qs := by
 refine ⟨?_, fun v h => ?_⟩
 ·unfold eachP
  exact Nat.le_trans (List.length_filter_le _ _) (by simp)
 ·obtain ⟨p, hp, rfl⟩ := csum_mem h
  obtain ⟨q, hq, e, -⟩ := eachP_mem hp
  rw [e]
  show csum qs q.1 ≠ 0
  rw [std_csum_mem hS hq]
  exact hS.2 q hq
theorem Prt.trans {rs qs ts : List (Int × Int)} (h1 : Prt rs qs) (h2 : Prt qs ts) : Prt rs ts := ⟨Nat.le_trans h1.1 h2.1, fun v h => h2.2 v (h1.2 v h)⟩
theorem prt_opp {d : Int} {qs : List (Int × Int)} (hS : Std qs) : Prt (oppP d qs) qs := (prt_each (eachP_std hS)).trans (prt_each hS)
theorem fstF_prt {kind d : Int} {us : List (Int × Int)} {k : Int} (hS : Std us) : Prt (fstF kind d us k).ps us := by
 unfold fstF
 split
 ·exact prt_opp hS
 ·exact prt_refl us
theorem divG_prt {kind : Int} {D : Nat} {ts : List (Int × Int)} {k : Int} (hS : Std ts) : Prt (divG kind D ts k).ps ts := by
 unfold divG
 split
 ·exact prt_nil _
 ·split
  ·exact prt_nil _
  ·exact (fstF_prt (eachP_std hS)).trans (prt_each hS)
theorem lessF_prt {qs : List (Int × Int)} {k : Int} (hS : Std qs) : Prt (lessF qs k).ps qs := by
 unfold lessF
 split
 ·exact prt_nil _
 ·exact prt_each (F := fun x => x / ((gcdL 0 qs : Nat) : Int)) hS
theorem formA_prt {kind d : Int} {qs : List (Int × Int)} {k : Int} {a : Atm} (hS : Std qs) (h : formA kind d qs k = .inl a) : Prt a.ps qs := by
 unfold formA at h
 by_cases h1 : kind = 0 ∨ kind = 1
 ·rw [if_pos h1] at h
  cases h
  exact prt_nil _
 ·rw [if_neg h1] at h
  by_cases h2 : kind = 2
  ·rw [if_pos h2] at h
   cases h
   exact lessF_prt hS
  ·rw [if_neg h2] at h
   by_cases h3 : kind = 3 ∨ kind = 4
   ·rw [if_pos h3] at h
    by_cases h4 : d = 0
    ·rw [if_pos h4] at h; cases h
    ·rw [if_neg h4] at h
     cases h
     exact (divG_prt (eachP_std hS)).trans (prt_each hS)
   ·rw [if_neg h3] at h; cases h
theorem Prt.tot {rs qs vs : List (Int × Int)} (h : Prt rs qs) (ht : Tot qs vs) : Tot rs vs := fun v hv => ht v (h.2 v hv)
theorem tot_congr {qs ps vs : List (Int × Int)} (hc : ∀ v, csum qs v = csum ps v) (ht : Tot ps vs) : Tot qs vs := fun v hv => ht v (by rw [← hc]; exact hv)
/-- kinds of forms -/
theorem Fit.kinds {a : Atm} (h : Fit a) : 0 ≤ a.kind ∧ a.kind ≤ 4 := by
 rcases h with ⟨h1, _⟩ | ⟨h1, _⟩ | ⟨h1, _⟩ <;> omega
theorem Fit.dpos {a : Atm} (h : Fit a) (hk : a.kind = 3 ∨ a.kind = 4) : 0 < a.d := by
 rcases h with ⟨h1, _⟩ | ⟨h1, _⟩ | ⟨_, h2, _⟩
 ·omega
 ·omega
 ·have := h2.two; omega
theorem tot_neg {a : Atm} {vs : List (Int × Int)} : Tot (negA a).ps vs ↔ Tot a.ps vs := by
 unfold negA Tot
 split
 ·exact Iff.rfl
 ·split
  ·exact Iff.rfl
  ·split
   ·constructor
    ·intro h v hv
     exact h v (by show csum (scl (-1) a.ps) v ≠ 0; rw [csum_scl]; omega)
    ·intro h v hv
     have hv' : csum (scl (-1) a.ps) v ≠ 0 := hv
     rw [csum_scl] at hv'
     exact h v (by omega)
   ·split
    ·exact Iff.rfl
    ·split <;> exact Iff.rfl
theorem negA_len (a : Atm) : (negA a).ps.length = a.ps.length := by
 unfold negA
 split
 ·rfl
 ·split
  ·rfl
  ·split
   ·simp [scl]
   ·split
    ·rfl
    ·split <;> rfl
/-- a form is never refused -/
theorem Fit.form {a : Atm} (h : Fit a) (qs : List (Int × Int)) (k : Int) : ∃ f, formA a.kind a.d qs k = .inl f := by
 unfold formA
 rcases h with ⟨h1, _⟩ | ⟨h1, _⟩ | ⟨h1, h2, _⟩
 ·rw [if_pos h1]; exact ⟨_, rfl⟩
 ·rw [if_neg (by omega), if_pos h1]; exact ⟨_, rfl⟩
 ·have := h2.two
  rw [if_neg (by omega), if_neg (by omega), if_pos h1, if_neg (by omega)]; exact ⟨_, rfl⟩
theorem sat_congr {kind d k : Int} {ps qs : List (Int × Int)} {f : Int → Int} (h : ev qs f = ev ps f) : Sat ⟨kind, d, qs, k⟩ f ↔ Sat ⟨kind, d, ps, k⟩ f := by
 unfold Sat
 simp only [h]
end Go.Proofs.YtjlkmjonadkkdaaGreatDoor.At
