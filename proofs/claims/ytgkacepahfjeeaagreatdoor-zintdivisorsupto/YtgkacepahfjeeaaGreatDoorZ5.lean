/-
  Layer 2: texts; 'awake'.
-/
import Derived.Test.YtgkacepahfjeeaaGreatDoorZ3
import Derived.Test.YtgkacepahfjeeaaGreatDoorZ4
namespace Go.Proofs.YtgkacepahfjeeaaGreatDoor
open Go.RowKit

/-- the text of a number -/
def zText (z : Int) : ByteArray := if z < 0 then ⟨#[45]⟩ ++ ⟨(Lib.decDigits (-z).toNat).toArray⟩ else ⟨(Lib.decDigits z.toNat).toArray⟩

theorem dec_bound {w : World} {a : Option Addr} {l c : Nat} {n : Int} (h : Nm w a l c n) : (Lib.decDigits n.toNat).length ≤ 10 * (l + 1) := by
  obtain ⟨zs, h1, rfl⟩ := h
  refine dec_length_le _ _ ?_ (by omega)
  have hv := (vl_bd h1.2.2.2.1 zs.length).2
  have h0 := val_nonneg h1.2.2.2.1
  have hp : ∀ k, pw k ≤ ((10 ^ (10 * k) : Nat) : Int) := by
    intro k
    induction k with
    | zero => decide
    | succ k ih =>
      rw [pw_succ, show 10 * (k + 1) = 10 * k + 10 from by omega, Nat.pow_add]
      have : (0 : Int) ≤ ((10 ^ (10 * k) : Nat) : Int) := Int.natCast_nonneg _
      rw [Int.natCast_mul]
      have e : ((10 ^ 10 : Nat) : Int) = 10000000000 := by decide
      rw [e]
      omega
  have h2 := hp (l + 1)
  have h3 : pw zs.length ≤ pw (l + 1) := pw_mono (by have := h1.1; omega)
  have hvl : val zs < pw (l + 1) := Int.lt_of_lt_of_le hv h3
  omega

set_option maxRecDepth 100000 in
set_option maxHeartbeats 1600000 in
theorem ztext_n {s : Bool} {a : Option Addr} {l c : Nat} {z : Int} {w : World} (h : Zm w s a l c z) (hl : l ≤ 1099511627776) (htab : Tab w) :
    Calls Tryz.prog 26 #[.agg #[.bool s, .slice a l c]] w fun e w' => e = .returned (.string (zText z)) ∧ Below w.heap.size w w' := by
  obtain ⟨n, hn, rfl⟩ := h
  have h0 := hn.nonneg
  go_enter Tryz.func26, Tryz.ntmps26
  go_wp2_with fail
  have x := zb_new w s a l c
  have b0 := below_alloc w (.cells #[.bool s, .slice a l c] 26)
  replace hn := hn.below b0
  replace htab := htab.below b0
  generalize w.alloc (.cells #[.bool s, .slice a l c] 26) = wb at *
  generalize hp : w.heap.size = p at *
  replace hp := hide hp
  refine (zsign_n ⟨n, hn, rfl⟩ hl).mono ?_
  rintro e w1 ⟨rfl, k1⟩
  have u1 := (x.below k1).c1
  replace hn := hn.below k1
  replace htab := htab.below k1
  have hB : Below p w w1 := b0.trans (k1.mono (Nat.le_of_lt x.lt))
  by_cases hz : sg s n < 0
  · rw [cmpI_lt hz]
    have hd := dec_bound hn
    have hn' : -sg s n = n := by cases s <;> simp [sg] at hz ⊢; omega
    go_wp2_with fail
    refine (text_n hn hl htab).mono ?_
    rintro e w2 ⟨rfl, k2⟩
    go_wp2
    go_ret
    exact ⟨by unfold zText; rw [if_pos hz, hn']; rfl, hp.out.symm ▸ hB.trans (k2.mono (Nat.le_trans (Nat.le_of_lt x.lt) k1.size))⟩
  · have hc : ¬ cmpI (sg s n) 0 < 0 := by unfold cmpI; rw [if_neg hz]; split <;> decide
    have hn' : sg s n = n := by cases s <;> simp [sg] at hz ⊢; omega
    rw [hn'] at hz hc ⊢
    generalize cmpI n 0 = cc at *
    go_wp2_with fail
    refine (text_n hn hl htab).mono ?_
    rintro e w2 ⟨rfl, k2⟩
    go_wp2
    go_ret
    exact ⟨by unfold zText; rw [if_neg (by omega), hn']; rfl, hp.out.symm ▸ hB.trans (k2.mono (Nat.le_trans (Nat.le_of_lt x.lt) k1.size))⟩

/-- does a text begin with a minus? -/
def cutB (s : ByteArray) : Bool := decide (0 < s.size) && ((s.extract 0 1).toList == [45])

def cutR (s : ByteArray) : ByteArray := if cutB s then s.extract 1 s.size else s

set_option maxRecDepth 100000 in
set_option maxHeartbeats 1600000 in
theorem hasPrefix_n (s : ByteArray) (w : World) :
    Calls Tryz.prog 88 #[.string s, .string ⟨#[45]⟩] w fun e w' => e = .returned (.bool (cutB s)) ∧ w' = w := by
  go_enter Tryz.func88, Tryz.ntmps88
  by_cases hs : 0 < s.size
  · go_wp2
    go_ret
    exact ⟨ret_bool (by unfold cutB; simp [hs]), rfl⟩
  · go_wp2
    go_ret
    exact ⟨ret_bool (by unfold cutB; simp [hs]), rfl⟩

set_option maxRecDepth 100000 in
set_option maxHeartbeats 1600000 in
theorem cutPrefix_n (s : ByteArray) (w : World) :
    Calls Tryz.prog 45 #[.string s, .string ⟨#[45]⟩] w fun e w' => e = .returned (.tuple #[.string (cutR s), .bool (cutB s)]) ∧ w' = w := by
  have inner : ∀ u : World, Calls Tryz.prog 67 #[.string s, .string ⟨#[45]⟩] u fun e w' => e = .returned (.tuple #[.string (cutR s), .bool (cutB s)]) ∧ w' = u := by
    intro u
    go_enter Tryz.func67, Tryz.ntmps67
    go_wp2_with fail
    refine (hasPrefix_n s u).mono ?_
    rintro e w1 ⟨rfl, rfl⟩
    cases hc : cutB s
    · have hr : cutR s = s := by unfold cutR; rw [hc]; rfl
      replace hr := hide hr
      go_wp2
      refine bodyPost_ret (results_tmp2 rfl _ _ _) rfl ?_
      exact ⟨by simp [unhide hr, hc], rfl⟩
    · have hs : 0 < s.size := by
        unfold cutB at hc
        rcases Nat.eq_zero_or_pos s.size with h | h
        · simp [h] at hc
        · exact h
      have hr : cutR s = s.extract 1 s.size := by unfold cutR; rw [hc]; rfl
      replace hr := hide hr
      go_wp2
      refine bodyPost_ret (results_tmp2 rfl _ _ _) rfl ?_
      exact ⟨by simp [unhide hr, hc], rfl⟩
  go_enter Tryz.func45, Tryz.ntmps45
  go_wp2_with fail
  refine (inner w).mono ?_
  rintro e w1 ⟨rfl, rfl⟩
  go_wp2
  refine bodyPost_ret (results_tmp2 rfl _ _ _) rfl ?_
  exact ⟨rfl, rfl⟩

theorem results_ct {P : Program} {fn : Func} {p1 t3 : Tmp} {ty : TypeId} (h : fn.results = #[.cell p1 ty, .tmp t3]) (tmps : Array Value) (w : World) (g1 : Nat) (t : TypeId) (cs1 : Array Value) (fr : Nat × Nat) (d : TypeDesc)
    (hp1 : tmps.getD p1 undef = .pointer (some ⟨g1, 0, none⟩)) (hg1 : w.heap[g1]? = some (.cells cs1 t fr))
    (hu : P.underlying ty = some d) (hd : (match d with | .struct _ | .array _ _ => true | _ => false) = true) (hi1 : (P.info? ty).map (·.size) = some cs1.size) :
    (results fn tmps).run P w = .ok (.tuple #[.agg cs1, tmps.getD t3 undef]) w := by
  have hp1' : tmps[p1]?.getD undef = .pointer (some ⟨g1, 0, none⟩) := by simpa using hp1
  simp [results, h, hp1', asAddr, run_loadVar_row w g1 t ty cs1 fr d hg1 hu hd hi1]

-- a text of a number below 0 is read
set_option maxRecDepth 100000 in
set_option maxHeartbeats 1600000 in
theorem zparse_neg (s : ByteArray) (w : World) (hs : s.size ≤ 1099511627776) (hc : cutB s = true) (hok : okText (s.extract 1 s.size)) (h0 : dr (s.extract 1 s.size) 0 (s.extract 1 s.size).size ≠ 0) :
    Calls Tryz.prog 25 #[.string s] w fun e w' => ∃ s' ad len cap, e = .returned (.tuple #[.agg #[.bool s', .slice ad len cap], .int .i64 0]) ∧ Zn w' s' ad len cap (-(dr (s.extract 1 s.size) 0 (s.extract 1 s.size).size : Int)) ∧ Below w.heap.size w w' ∧ len ≤ s.size := by
  have hsz : (s.extract 1 s.size).size ≤ s.size := by rw [ByteArray.size_extract]; omega
  go_enter Tryz.func25, Tryz.ntmps25
  go_wp2_with fail
  have y := zb_new w false none 0 0
  have b0 := below_alloc w (.cells #[.bool false, .slice none 0 0] 26)
  generalize w.alloc (.cells #[.bool false, .slice none 0 0] 26) = wb at *
  generalize hp : w.heap.size = r at *
  replace hp := hide hp
  refine (cutPrefix_n s wb).mono ?_
  rintro e w1 ⟨rfl, rfl⟩
  rw [hc, show cutR s = s.extract 1 s.size from by unfold cutR; rw [hc]; rfl]
  go_wp2_with fail
  refine (parse_n _ _ (by omega) hok).mono ?_
  rintro e w2 ⟨ad, len, cap, rfl, hcn, k2, hl'⟩
  have hlen := hcn.len
  have hlen0 : 0 < len := Nat.pos_of_ne_zero (fun h => h0 (by have := hlen.2 h; omega))
  go_wp2_with fail
  refine (stand_n hcn).mono ?_
  rintro e w' ⟨s', rfl, hz, hg⟩
  have y' : ZB w' r false none 0 0 := ZB.below y (grow_step hg k2)
  have y0 := y'.c0
  have y1 := y'.c1
  have y2 := y'.f 0
  have y3 := y'.f 1
  have hB : Below r w w' := b0.trans ((grow_step hg k2).mono (Nat.le_of_lt y.lt))
  go_wp2
  refine bodyPost_ret (results_ct rfl _ _ r 26 _ (0, 0) _ rfl (zb_fin y' s' ad len cap) Tryz.underlying26 rfl (by kernel_rfl)) rfl ?_
  exact ⟨s', ad, len, cap, by simp, zb_zn y' hz _ _ _ _, hp.out.symm ▸ (hB.setCell (Nat.le_refl _) _).setCell (Nat.le_refl _) _, by omega⟩

end Go.Proofs.YtgkacepahfjeeaaGreatDoor
