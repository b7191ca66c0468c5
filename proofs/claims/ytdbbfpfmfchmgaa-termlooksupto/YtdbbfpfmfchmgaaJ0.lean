/-
  Several texts in one: W6, W7, W8.
-/
import Derived.Test.YtdbbfpfmfchmgaaW5
import Derived.Test.YtdbbfpfmfchmgaaApp
namespace Go.Proofs.Ytdbbfpfmfchmgaa
open Go.RowKit

theorem ret_bool {a b : Bool} (h : a = b) : Ending.returned (.bool a) = .returned (.bool b) := by rw [h]

set_option maxRecDepth 100000 in
set_option maxHeartbeats 800000 in
theorem of_any (n : Int) (h0 : 0 ≤ n) (h1 : n < 18446744073709551616) (w : World) :
    Calls Try.prog 65 #[.int .u64 n] w fun e w' => ∃ ad len cap zs, e = .returned (.slice ad len cap) ∧ Out w w' ad len cap zs ∧ Canon zs ∧ val zs = n ∧ len ≤ 2 := by
  have hm := mask64 n h0 h1
  go_enter Try.func65, Try.ntmps65
  go_wp2_with fail
  have hrow : Row (w.alloc (.cells #[.int .u32 (n % 4294967296), .int .u32 (n / 4294967296)] 65)) w.heap.size [n % 4294967296, n / 4294967296] := row_alloc w [n % 4294967296, n / 4294967296]
  have hlim : Limbs [n % 4294967296, n / 4294967296] := by
    intro z hz
    simp only [List.mem_cons, List.not_mem_nil, or_false] at hz
    rcases hz with rfl | rfl <;> omega
  have hbel : Below w.heap.size w (w.alloc (.cells #[.int .u32 (n % 4294967296), .int .u32 (n / 4294967296)] 65)) := (Below.refl _ _).alloc (Nat.le_refl _) _
  have hval : Hid (val [n % 4294967296, n / 4294967296] = n) := by
    show _ = _
    simp only [val, vl, lz, pw, List.length_cons, List.length_nil]
    simp
    omega
  refine (bare_own (n := 2) hrow hlim rfl (by decide)).mono ?_
  rintro e w' ⟨rfl, rfl⟩
  obtain ⟨o1, o2, o3, o4⟩ := own_trim (n := 2) hbel hrow hlim rfl (by decide)
  clear hm
  go_wp2_with fail
  go_ret
  exact ⟨_, _, _, _, rfl, o1, o2, o3.trans (unhide hval), o4⟩

theorem run_append_nils (ty : TypeId) (c : Nat) (w : World) : (Builtin.append_ #[23, 23] ty #[.slice none 0 0, .slice none 0 c]).run Try.prog w = .ok (.slice none 0 0) w := by
  obtain ⟨i0, hi, hz0, hz1, hz2⟩ := info_parts info49a
  simp [Builtin.append_, run_underlying Try.underlying23, sizeOf, typeInfo, hi, Builtin.lenOf, Builtin.firstCells]

theorem out_none (w : World) : Out w w none 0 0 [] := ⟨Below.refl _ _, .inl ⟨rfl, rfl, rfl, rfl⟩⟩

/-- append of all of a slice that reads as limbs onto nil -/
theorem run_append_all {w : World} {ad : Option Addr} {n cap : Nat} {X : List Int} (h : Rd w ad n cap X) (hb : n ≤ 1099511627776) (ty : TypeId) :
    ∃ v' w', (Builtin.append_ #[23, 23] ty #[.slice none 0 0, .slice ad n cap]).run Try.prog w = .ok v' w' ∧ ∃ ad' cap', v' = .slice ad' n cap' ∧ Out w w' ad' n cap' X := by
  obtain ⟨h1, h2, h3, h4, h5⟩ := h
  have fin : ∀ a, ad = some a → (∀ j, j < n → w.cell? (a.add j) = some (.int .u32 (lz X j))) → ∃ v' w', (Builtin.append_ #[23, 23] ty #[.slice none 0 0, .slice ad n cap]).run Try.prog w = .ok v' w' ∧ ∃ ad' cap', v' = .slice ad' n cap' ∧ Out w w' ad' n cap' X := by
    rintro a rfl hc
    obtain ⟨v', w', hr, ad', cap', hv, ho, _⟩ := run_append_out (out_none w) ty a n cap X h1 h4 hc (by omega)
    rw [Nat.zero_add] at hv ho
    exact ⟨v', w', hr, ad', cap', hv, by simpa using ho⟩
  rcases h5 with ⟨rfl, rfl, rfl⟩ | ⟨a, rfl, rfl | ⟨b, off, rfl, _, hc⟩⟩
  · obtain rfl : X = [] := List.eq_nil_of_length_eq_zero h1
    exact ⟨_, _, run_append_nils ty 0 w, none, 0, rfl, out_none w⟩
  · exact fin a rfl (fun j hj => absurd hj (by omega))
  · exact fin _ rfl (fun j hj => by rw [Addr.add_lit]; exact hc j hj)

end Go.Proofs.Ytdbbfpfmfchmgaa

namespace Go.Proofs.Ytdbbfpfmfchmgaa
open Go.RowKit

theorem or64 (x y : Int) (h0 : 0 ≤ x) (h1 : x < 4294967296) (h2 : 0 ≤ y) (h3 : y < 4294967296) : bits .or .u64 (x * 4294967296) y = x * 4294967296 + y := by
  obtain ⟨a, rfl⟩ := Int.eq_ofNat_of_zero_le h0
  obtain ⟨b, rfl⟩ := Int.eq_ofNat_of_zero_le h2
  have e1 : ((a : Int) * 4294967296) = ((a * 4294967296 : Nat) : Int) := by omega
  rw [e1, u64_or_nat _ _ (by omega) (by omega)]
  have e2 : a * 4294967296 ||| b = a * 4294967296 + b := by
    have := Nat.two_pow_add_eq_or_of_lt (i := 32) (b := b) (by omega) a
    rw [Nat.mul_comm a]
    exact this.symm
  rw [e2]
  omega

end Go.Proofs.Ytdbbfpfmfchmgaa

namespace Go.Proofs.Ytdbbfpfmfchmgaa
open Go.RowKit

theorem tl_congr {xs ys : List Int} {n : Nat} (h : ∀ i, i < n → lz xs i = lz ys i) : tl xs n = tl ys n := by
  induction n with
  | zero => rfl
  | succ n ih => unfold tl; rw [h n (by omega), ih (fun i hi => h i (by omega))]

theorem canon_cut {zk : List Int} {n : Nat} (h : Limbs zk) (hn : n ≤ zk.length) : Canon (zk.take (tl zk n)) ∧ val (zk.take (tl zk n)) = vl zk n := by
  have hb := tl_le zk n
  refine ⟨⟨h.take _, fun hp => ?_⟩, by rw [val_take _ _ (by omega), vl_tl]⟩
  have hl : (zk.take (tl zk n)).length = tl zk n := by rw [List.length_take]; omega
  rw [hl] at hp ⊢
  rw [lz_take, if_pos (by omega)]
  exact tl_last hp

theorem trim_canon {zs : List Int} (h : Canon zs) : trim zs = zs := canon_inj (canon_trim h.1) h (val_trim zs)
theorem tl_canon {zs : List Int} {n : Nat} (h : Canon zs) (hn : zs.length = n) : tl zs n = n := by
  subst hn
  rw [← trim_length, trim_canon h]

theorem bare_cut {w : World} {b : Nat} {zk : List Int} {n cap : Nat} (h : Row w b zk) (hl : Limbs zk) (hn : n ≤ zk.length) (hc : n ≤ cap) (hm : cap ≤ 9223372036854775807) :
    Calls Try.prog 80 #[.slice (some ⟨b, 0, none⟩) n cap] w fun e w' => e = .returned (.slice (some ⟨b, 0, none⟩) (tl zk n) cap) ∧ w = w' := by
  have := h.rd hl (off := 0) (len := n) (cap := cap) (by omega) hc hm
  rw [List.drop_zero] at this
  have e : tl (zk.take n) n = tl zk n := tl_congr (fun i hi => by rw [lz_take, if_pos hi])
  have k := bare_any this
  rw [e] at k
  exact k

theorem Row.below {w w' : World} {b : Nat} {xs : List Int} (h : Row w b xs) (hb : Below w.heap.size w w') : Row w' b xs := by
  unfold Row; rw [hb.block b h.lt]; exact h

theorem Row.only {w w' : World} {b c : Nat} {xs : List Int} (h : Row w b xs) (hb : Only c w w') (hne : b ≠ c) : Row w' b xs := by
  unfold Row; rw [hb.block b hne]; exact h

/-- what came out stays behind later work in newer memory -/
theorem Out.later {w0 w w' : World} {ad : Option Addr} {len cap : Nat} {zs : List Int} (h : Out w0 w ad len cap zs) (hb : Below w.heap.size w w') : Out w0 w' ad len cap zs := by
  obtain ⟨h1, h2⟩ := h
  refine ⟨h1.trans (hb.mono h1.size), ?_⟩
  rcases h2 with h2 | ⟨b, xs, h3, h4, h5, h6⟩
  · exact .inl h2
  · exact .inr ⟨b, xs, h3, h4, h5.below hb, h6⟩

/-- an answer made later is an answer of the whole -/
theorem Out.outer {w0 w w' : World} {ad : Option Addr} {len cap : Nat} {zs : List Int} (h : Out w w' ad len cap zs) (hb : Below w0.heap.size w0 w) : Out w0 w' ad len cap zs := by
  obtain ⟨h1, h2⟩ := h
  refine ⟨hb.trans (h1.mono hb.size), ?_⟩
  rcases h2 with h2 | ⟨b, xs, h3, h4, h6⟩
  · exact .inl h2
  · exact .inr ⟨b, xs, h3, Nat.le_trans hb.size h4, h6⟩

end Go.Proofs.Ytdbbfpfmfchmgaa
