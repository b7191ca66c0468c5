/-
  Layer 3: what Tokens answers, in one form.
-/
import Derived.Test.YtkgemeeadkfnhaaDoorXC
namespace Go.Proofs.YtkgemeeadkfnhaaDoor
open Go.RowKit Go.Shelf

/-- what Tokens answers -/
def TokRes (s : ByteArray) (xs : List TM) (x : Int) (p : Nat) : Prop := (x = 0 ∧ p = 0 ∧ Lxs s (xs.map TM.d) 0 0) ∨ (x ≠ 0 ∧ xs = [] ∧ ∃ ts, Lxs s ts x p)
theorem tokRes_unique {s : ByteArray} {xs ys : List TM} {x y : Int} {p q : Nat} (h : TokRes s xs x p) (h' : TokRes s ys y q) : xs.map TM.d = ys.map TM.d ∧ x = y ∧ p = q := by
  rcases h with ⟨rfl, rfl, h⟩ | ⟨h0, rfl, ts, h⟩ <;> rcases h' with ⟨rfl, rfl, h'⟩ | ⟨h0', rfl, ts', h'⟩
  · exact lxs_unique h h'
  · exact absurd (lxs_unique h h').2.1.symm h0'
  · exact absurd (lxs_unique h h').2.1 h0
  · exact ⟨rfl, (lxs_unique h h').2⟩
theorem lx_len {s : ByteArray} {a : Nat} {ts : List TD} {e : Int} {p : Nat} (h : Lx s a ts e p) : ts.length ≤ s.size - a := by
  induction h with
  | done h => exact Nat.zero_le _
  | bad h hk hn => exact Nat.zero_le _
  | word h hk hw hr ih =>
    have h1 := wd_size hw hk
    have h2 := hw.2.1
    have h3 := h.1
    rw [List.length_cons]
    omega
theorem tokRes_len {s : ByteArray} {xs : List TM} {x : Int} {p : Nat} (h : TokRes s xs x p) : xs.length ≤ s.size := by
  rcases h with ⟨_, _, h⟩ | ⟨_, rfl, _⟩
  · unfold Lxs at h
    split at h
    · exact absurd h.2.1 (by decide)
    · have := lx_len h
      rw [List.length_map] at this
      omega
  · exact Nat.zero_le _
theorem tokens_u (s : ByteArray) (w : World) (hs : s.size ≤ 1099511627776) (hS : Sgn w) :
    Calls Tryd.prog 11 #[.string s] w fun e w' => ∃ (xs : List TM) (va : Option Addr) (vn vc : Nat) (x : Int) (p : Nat), TokRes s xs x p ∧ e = .returned (.tuple #[.slice va vn vc, .agg #[.int .i64 x, .int .i64 p]]) ∧ w'.ownsRow w.heap.size 40 5 (.slice va vn vc) xs.length (xs.flatMap V5) ∧ (∀ x ∈ xs, Mg w w' x) ∧ SpZ w' tokZ (.slice va vn vc) ∧ Below w.heap.size w w' := by
  refine (tokens_any s w hs hS).mono ?_
  rintro e w1 (⟨xs, v, hx, rfl, hrow, hmg, hz, hb⟩ | ⟨ts, x, p, hx, hx0, rfl, hb⟩)
  · obtain ⟨a, m, c, rfl⟩ := own_slice hrow
    exact ⟨xs, a, m, c, 0, 0, .inl ⟨rfl, rfl, hx⟩, rfl, hrow, hmg, hz, hb⟩
  · exact ⟨[], none, 0, 0, x, p, .inr ⟨hx0, rfl, ts, hx⟩, rfl, World.ownsRow_nil _ _ _ _, fun x hx => (by cases hx), spz_nil _ _, hb⟩
end Go.Proofs.YtkgemeeadkfnhaaDoor
