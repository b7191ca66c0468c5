/-
  Walks: same, Of, fresh.
-/
import Derived.Test.YtpjngmllbkcclaaW5
import Derived.Test.YtpjngmllbkcclaaApp
namespace Go.Proofs.Ytpjngmllbkcclaa
open Go.RowKit

theorem ret_bool {a b : Bool} (h : a = b) : Ending.returned (.bool a) = .returned (.bool b) := by rw [h]

set_option maxRecDepth 100000 in
set_option maxHeartbeats 800000 in
theorem of_any (n : Int) (h0 : 0 ≤ n) (h1 : n < 18446744073709551616) (w : World) :
    Calls Try.prog 76 #[.int .u64 n] w fun e w' => ∃ ad len cap zs, e = .returned (.slice ad len cap) ∧ Out w w' ad len cap zs ∧ Canon zs ∧ val zs = n ∧ len ≤ 2 := by
  have hm := mask64 n h0 h1
  go_enter Try.func76, Try.ntmps76
  go_wp2_with fail
  have hrow : Row (w.alloc (.cells #[.int .u32 (n % 4294967296), .int .u32 (n / 4294967296)] 69)) w.heap.size [n % 4294967296, n / 4294967296] := row_alloc w [n % 4294967296, n / 4294967296]
  have hlim : Limbs [n % 4294967296, n / 4294967296] := by
    intro z hz
    simp only [List.mem_cons, List.not_mem_nil, or_false] at hz
    rcases hz with rfl | rfl <;> omega
  have hbel : Below w.heap.size w (w.alloc (.cells #[.int .u32 (n % 4294967296), .int .u32 (n / 4294967296)] 69)) := (Below.refl _ _).alloc (Nat.le_refl _) _
  have hval : Hid (val [n % 4294967296, n / 4294967296] = n) := by
    show _ = _
    simp only [val, vl, lz, pw, List.length_cons, List.length_nil]
    simp
    omega
  refine (bare_own (n := 2) hrow hlim rfl (by decide)).mono ?_
  rintro e w' ⟨rfl, rfl⟩
  obtain ⟨o1, o2, o3, o4⟩ := own_trim (n := 2) hbel hrow hlim rfl (by decide)
  clear hm
  go_wp2_with fail
  go_ret
  exact ⟨_, _, _, _, rfl, o1, o2, o3.trans (unhide hval), o4⟩

theorem run_append_nils (ty : TypeId) (c : Nat) (w : World) : (Builtin.append_ #[23, 23] ty #[.slice none 0 0, .slice none 0 c]).run Try.prog w = .ok (.slice none 0 0) w := by
  obtain ⟨i0, hi, hz0, hz1, hz2⟩ := info_parts info49a
  simp [Builtin.append_, run_underlying Try.underlying23, sizeOf, typeInfo, hi, Builtin.lenOf, Builtin.firstCells]

theorem out_none (w : World) : Out w w none 0 0 [] := ⟨Below.refl _ _, .inl ⟨rfl, rfl, rfl, rfl⟩⟩

/-- append of all of a slice that reads as limbs onto nil -/
theorem run_append_all {w : World} {ad : Option Addr} {n cap : Nat} {X : List Int} (h : Rd w ad n cap X) (hb : n ≤ 1099511627776) (ty : TypeId) :
    ∃ v' w', (Builtin.append_ #[23, 23] ty #[.slice none 0 0, .slice ad n cap]).run Try.prog w = .ok v' w' ∧ ∃ ad' cap', v' = .slice ad' n cap' ∧ Out w w' ad' n cap' X := by
  obtain ⟨h1, h2, h3, h4, h5⟩ := h
  have fin : ∀ a, ad = some a → (∀ j, j < n → w.cell? (a.add j) = some (.int .u32 (lz X j))) → ∃ v' w', (Builtin.append_ #[23, 23] ty #[.slice none 0 0, .slice ad n cap]).run Try.prog w = .ok v' w' ∧ ∃ ad' cap', v' = .slice ad' n cap' ∧ Out w w' ad' n cap' X := by
    rintro a rfl hc
    obtain ⟨v', w', hr, ad', cap', hv, ho, _⟩ := run_append_out (out_none w) ty a n cap X h1 h4 hc (by omega)
    rw [Nat.zero_add] at hv ho
    exact ⟨v', w', hr, ad', cap', hv, by simpa using ho⟩
  rcases h5 with ⟨rfl, rfl, rfl⟩ | ⟨a, rfl, rfl | ⟨b, off, rfl, _, hc⟩⟩
  · obtain rfl : X = [] := List.eq_nil_of_length_eq_zero h1
    exact ⟨_, _, run_append_nils ty 0 w, none, 0, rfl, out_none w⟩
  · exact fin a rfl (fun j hj => absurd hj (by omega))
  · exact fin _ rfl (fun j hj => by rw [Addr.add_lit]; exact hc j hj)

end Go.Proofs.Ytpjngmllbkcclaa
