/-
  Walks: DivMod by 0, by a greater number, by one limb.
-/
import Derived.Test.YtpjngmllbkcclaaW7
namespace Go.Proofs.Ytpjngmllbkcclaa
open Go.RowKit

theorem tl_congr {xs ys : List Int} {n : Nat} (h : ∀ i, i < n → lz xs i = lz ys i) : tl xs n = tl ys n := by
  induction n with
  | zero => rfl
  | succ n ih => unfold tl; rw [h n (by omega), ih (fun i hi => h i (by omega))]

theorem canon_cut {zk : List Int} {n : Nat} (h : Limbs zk) (hn : n ≤ zk.length) : Canon (zk.take (tl zk n)) ∧ val (zk.take (tl zk n)) = vl zk n := by
  have hb := tl_le zk n
  refine ⟨⟨h.take _, fun hp => ?_⟩, by rw [val_take _ _ (by omega), vl_tl]⟩
  have hl : (zk.take (tl zk n)).length = tl zk n := by rw [List.length_take]; omega
  rw [hl] at hp ⊢
  rw [lz_take, if_pos (by omega)]
  exact tl_last hp

theorem trim_canon {zs : List Int} (h : Canon zs) : trim zs = zs := canon_inj (canon_trim h.1) h (val_trim zs)
theorem tl_canon {zs : List Int} {n : Nat} (h : Canon zs) (hn : zs.length = n) : tl zs n = n := by
  subst hn
  rw [← trim_length, trim_canon h]

theorem bare_cut {w : World} {b : Nat} {zk : List Int} {n cap : Nat} (h : Row w b zk) (hl : Limbs zk) (hn : n ≤ zk.length) (hc : n ≤ cap) (hm : cap ≤ 9223372036854775807) :
    Calls Try.prog 86 #[.slice (some ⟨b, 0, none⟩) n cap] w fun e w' => e = .returned (.slice (some ⟨b, 0, none⟩) (tl zk n) cap) ∧ w = w' := by
  have := h.rd hl (off := 0) (len := n) (cap := cap) (by omega) hc hm
  rw [List.drop_zero] at this
  have e : tl (zk.take n) n = tl zk n := tl_congr (fun i hi => by rw [lz_take, if_pos hi])
  have k := bare_any this
  rw [e] at k
  exact k

theorem Row.below {w w' : World} {b : Nat} {xs : List Int} (h : Row w b xs) (hb : Below w.heap.size w w') : Row w' b xs := by
  unfold Row; rw [hb.block b h.lt]; exact h

theorem Row.only {w w' : World} {b c : Nat} {xs : List Int} (h : Row w b xs) (hb : Only c w w') (hne : b ≠ c) : Row w' b xs := by
  unfold Row; rw [hb.block b hne]; exact h

/-- what came out stays behind later work in newer memory -/
theorem Out.later {w0 w w' : World} {ad : Option Addr} {len cap : Nat} {zs : List Int} (h : Out w0 w ad len cap zs) (hb : Below w.heap.size w w') : Out w0 w' ad len cap zs := by
  obtain ⟨h1, h2⟩ := h
  refine ⟨h1.trans (hb.mono h1.size), ?_⟩
  rcases h2 with h2 | ⟨b, xs, h3, h4, h5, h6⟩
  · exact .inl h2
  · exact .inr ⟨b, xs, h3, h4, h5.below hb, h6⟩

/-- an answer made later is an answer of the whole -/
theorem Out.outer {w0 w w' : World} {ad : Option Addr} {len cap : Nat} {zs : List Int} (h : Out w w' ad len cap zs) (hb : Below w0.heap.size w0 w) : Out w0 w' ad len cap zs := by
  obtain ⟨h1, h2⟩ := h
  refine ⟨hb.trans (h1.mono hb.size), ?_⟩
  rcases h2 with h2 | ⟨b, xs, h3, h4, h6⟩
  · exact .inl h2
  · exact .inr ⟨b, xs, h3, Nat.le_trans hb.size h4, h6⟩

end Go.Proofs.Ytpjngmllbkcclaa
