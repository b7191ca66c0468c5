/-
  Layer 3: the words of a text from a place on, and what is wrong.
-/
import Derived.Test.YtkgemeeadkfnhaaDoorX6
namespace Go.Proofs.YtkgemeeadkfnhaaDoor
open Go.RowKit

/-- from place a on a text has these words, and then this error (0: none), at that place -/
inductive Lx (s : ByteArray) : Nat → List TD → Int → Nat → Prop
  | done {a : Nat} (h : BlankEnd s a s.size) : Lx s a [] 0 0
  | bad {a k : Nat} {e : Int} (h : BlankEnd s a k) (hk : k < s.size) (hn : Nw s k e) : Lx s a [] e k
  | word {a k : Nat} {t : TD} {ts : List TD} {e : Int} {p : Nat} (h : BlankEnd s a k) (hk : k < s.size) (hw : Wd s k t) (hr : Lx s (k + t.text.size) ts e p) : Lx s a (t :: ts) e p

theorem blank_self {s : ByteArray} {a k : Nat} (h : BlankEnd s a k) : BlankEnd s k k := ⟨Nat.le_refl _, h.2.1, fun j h1 h2 => absurd h1 (by omega), h.2.2.2⟩
theorem blank_trans {s : ByteArray} {a k m : Nat} (h : BlankEnd s a k) (h' : BlankEnd s k m) : BlankEnd s a m := by
  obtain rfl := (blank_self h).unique h'
  exact h
theorem lx_skip {s : ByteArray} {a k : Nat} {ts : List TD} {e : Int} {p : Nat} (h : BlankEnd s a k) (hl : Lx s k ts e p) : Lx s a ts e p := by
  cases hl with
  | done h' => exact .done (blank_trans h h')
  | bad h' hk hn => exact .bad (blank_trans h h') hk hn
  | word h' hk hw hr => exact .word (blank_trans h h') hk hw hr
theorem nw_ne {s : ByteArray} {a : Nat} {e : Int} (h : Nw s a e) : e = 12 ∨ e = 30 := by
  rcases h with ⟨_, _, h⟩ | ⟨_, _, h⟩ | ⟨_, _, _, h⟩ <;> omega
theorem lx_unique {s : ByteArray} {a : Nat} {ts us : List TD} {e f : Int} {p q : Nat} (h : Lx s a ts e p) (h' : Lx s a us f q) : ts = us ∧ e = f ∧ p = q := by
  induction h generalizing us f q with
  | done h1 =>
    cases h' with
    | done h2 => exact ⟨rfl, rfl, rfl⟩
    | bad h2 hk hn => have := h1.unique h2; omega
    | word h2 hk hw hr => have := h1.unique h2; omega
  | bad h1 hk1 hn1 =>
    cases h' with
    | done h2 => have := h1.unique h2; omega
    | bad h2 hk hn =>
      obtain rfl := h1.unique h2
      exact ⟨rfl, nw_unique hn1 hn, rfl⟩
    | word h2 hk hw hr =>
      obtain rfl := h1.unique h2
      exact (nw_wd hw hn1).elim
  | word h1 hk1 hw1 hr1 ih =>
    cases h' with
    | done h2 => have := h1.unique h2; omega
    | bad h2 hk hn =>
      obtain rfl := h1.unique h2
      exact (nw_wd hw1 hn).elim
    | word h2 hk hw hr =>
      obtain rfl := h1.unique h2
      obtain rfl := wd_unique hw1 hw
      obtain ⟨rfl, rfl, rfl⟩ := ih hr
      exact ⟨rfl, rfl, rfl⟩
/-- these are a text's first words: what stands behind them, from a place on, is the rest -/
def Pfx (s : ByteArray) (ds : List TD) : Prop := ∃ a, a ≤ s.size ∧ ∀ ts x p, Lx s a ts x p → Lx s 0 (ds ++ ts) x p
/-- a text's words, and what is wrong -/
def Lxs (s : ByteArray) (ts : List TD) (e : Int) (p : Nat) : Prop := if 4096 < s.size then ts = [] ∧ e = 40 ∧ p = 0 else Lx s 0 ts e p
theorem lxs_unique {s : ByteArray} {ts us : List TD} {e f : Int} {p q : Nat} (h : Lxs s ts e p) (h' : Lxs s us f q) : ts = us ∧ e = f ∧ p = q := by
  unfold Lxs at h h'
  split at h
  · rename_i hc
    rw [if_pos hc] at h'
    obtain ⟨rfl, rfl, rfl⟩ := h
    obtain ⟨rfl, rfl, rfl⟩ := h'
    exact ⟨rfl, rfl, rfl⟩
  · rename_i hc
    rw [if_neg hc] at h'
    exact lx_unique h h'
theorem lx_zero {s : ByteArray} {a : Nat} {ts : List TD} {p : Nat} {e : Int} (h : Lx s a ts e p) : (e = 0 ∧ p = 0) ∨ (e = 12 ∨ e = 30) ∧ p < s.size := by
  induction h with
  | done h => exact .inl ⟨rfl, rfl⟩
  | bad h hk hn => exact .inr ⟨nw_ne hn, hk⟩
  | word h hk hw hr ih => exact ih
end Go.Proofs.YtkgemeeadkfnhaaDoor
