/-
  Layer 5: Vars, 'awake'.
-/
import Derived.Test.YtpjngmllbkcclaaYE
namespace Go.Proofs.Ytpjngmllbkcclaa
open Go.RowKit Go.Sort Go.Shelf
open Tm

/-- a slice of ints -/
def IV (w : World) (ad : Option Addr) (n : Nat) (xs : List Int) : Prop := xs.length = n ∧ (n = 0 ∨ ∃ g, ad = some ⟨g, 0, none⟩ ∧ g < w.heap.size ∧ ∀ i (h : i < xs.length), w.cell? ⟨g, i, none⟩ = some (.int .i64 xs[i]))
theorem IV.below {w w' : World} {ad : Option Addr} {n : Nat} {xs : List Int} (h : IV w ad n xs) (hb : Below w.heap.size w w') : IV w' ad n xs := by
  refine ⟨h.1, ?_⟩
  rcases h.2 with h2 | ⟨g, e, hg, h2⟩
  · exact .inl h2
  · exact .inr ⟨g, e, Nat.lt_of_lt_of_le hg hb.size, fun i hi => (hb.cell (p := ⟨g, i, none⟩) hg).trans (h2 i hi)⟩
theorem row_iv {w : World} {base n : Nat} {v : Value} {xs : List Int} (h : w.ownsRow base 3 1 v n (xs.map (Value.int .i64))) : ∃ ad cap, v = .slice ad n cap ∧ IV w ad n xs := by
  have hl : xs.length = n := by simpa using h.1
  rcases h.2 with ⟨rfl, rfl⟩ | ⟨g, cap, cur, rfl, _, hcur, _, _, _, htake⟩
  · exact ⟨none, 0, rfl, hl, .inl rfl⟩
  · refine ⟨_, cap, rfl, hl, .inr ⟨g, rfl, (Array.getElem?_eq_some_iff.1 hcur).1, fun i hi => ?_⟩⟩
    have e : (cur.toList.take (n * 1))[i]? = some (.int .i64 xs[i]) := by rw [htake, List.getElem?_map, List.getElem?_eq_getElem hi]; rfl
    rw [List.getElem?_take, if_pos (by omega)] at e
    exact (cell_of_row w g i _ _ (0, 0) hcur).trans (by simpa using e)
theorem infoI : (Try.prog.info? 3).map (fun i => (i.zero, i.size, i.bytes)) = some (some (.int .i64 0), 1, 8) := by kernel_rfl

theorem run_parts (ad : Option Addr) (n cp : Nat) (s : Bool) (a : Option Addr) (l c : Nat) (w : World) : (Instr.field 27 (.agg #[.slice ad n cp, .bool s, .slice a l c]) 0).run Try.prog w = .ok (.slice ad n cp) w := by
  simp [Instr.field, run_underlying Try.underlying27, asAgg, part, Try.isAgg22]

set_option maxRecDepth 100000 in
set_option maxHeartbeats 1600000 in
theorem tvars_n {w : World} {ad : Option Addr} {n cp : Nat} {s : Bool} {a : Option Addr} {l c : Nat} {ps : List (Int × Int)} {k : Int} {B : Nat} (hP : Pr w ad n ps B) (hz : Zm w s a l c k) (hl : l ≤ B) (hB : B + n ≤ 536870912) :
    Calls Try.prog 35 #[.agg #[.slice ad n cp, .bool s, .slice a l c]] w fun e w' => ∃ ad' n' cp' qs, e = .returned (.slice ad' n' cp') ∧ IV w' ad' n' (qs.map Prod.fst) ∧ n' ≤ n ∧ Std qs ∧ (∀ v, csum qs v = csum ps v) ∧ Below w.heap.size w w' := by
  go_enter Try.func35, Try.ntmps35
  go_wp2_with fail
  have b0 := below_alloc w (.cells #[.slice ad n cp, .bool s, .slice a l c] 27)
  refine (tnorm_n (hP.below b0) (hz.below b0) hl hB).mono ?_
  rintro e w1 ⟨ad1, n1, cp1, s1, a1, l1, c1, rs, rfl, hTN, hn1, hStd, hcs⟩
  have hP1 := hTN.pr
  have k1 := hide (grow_step hTN.below b0)
  obtain ⟨hn, hP1⟩ := hP1
  generalize rs.map Raw.p = qs at *
  clear b0 hTN hP hz
  obtain ⟨i0, hi, hz0, hz1, hz2⟩ := info_parts infoI
  have hfield := run_parts ad1 n1 cp1 s1 a1 l1 c1 w1
  go_wp2_with fail
  go_loopw [3, 10] (fun vv i wr => ∃ t : Nat, t ≤ n1 ∧ i = .int .i64 t ∧ wr.ownsRow w1.heap.size 3 1 vv t ((qs.take t).map fun q => .int .i64 q.1) ∧ Below w1.heap.size w1 wr) (fun _ i _ => n1 - (intOf i).toNat)
  case atStart => exact ⟨0, Nat.zero_le _, rfl, World.ownsRow_nil _ _ _ _, Below.refl _ _⟩
  case round =>
    obtain ⟨t, ht, rfl, hrow, kr⟩ := hrel
    by_cases htn : t < n1
    · rcases hP1 with h | ⟨bp, op, rfl, hP1⟩
      · omega
      · obtain ⟨s2, a2, l2, c2, e0, e1, e2, -, -, hv⟩ := (hP1.below kr).2 t (by omega)
        have hps : Hid (qs.take (t + 1) = qs.take t ++ [qs[t]]) := List.take_succ_eq_append_getElem (l := qs) (i := t) (by omega)
        generalize qs[t] = pp at *
        have ka := below_alloc wr (.cells #[.int .i64 pp.1, .bool s2, .slice a2 l2 c2] 61)
        have hbase := hide (show w1.heap.size ≤ wr.heap.size from kr.size)
        go_wp2_with (at_builtin; refine wpList_append_own_at _ rfl _ _ 43 rfl w1.heap.size 3 i0 _ 1 8 Try.underlying43 hi hz0 hz1 hz2 rfl (by decide) _ _ _ rfl ((hrow.alloc _).alloc _) ⟨wr.heap.size + 1, 0, none⟩ 1 1 [.int .i64 pp.1] rfl rfl (by simpa using cell_one_new (wr.alloc (.cells #[.int .i64 pp.1, .bool s2, .slice a2 l2 c2] 61)) (.int .i64 pp.1) 3) (by simp [Value.oneCell']) (by unfold maxLen; omega) (by omega) (by have := hbase.out; simp; omega) ?_; intro v' w4 hown' hgrow hnil hat')
        have kb := below_alloc (wr.alloc (.cells #[.int .i64 pp.1, .bool s2, .slice a2 l2 c2] 61)) (.cells #[.int .i64 pp.1] 3)
        have k4 : Below w1.heap.size w1 w4 := (grow_step kb (grow_step ka kr)).grown hgrow (grow_step kb (grow_step ka kr)).size (fun k e => (hrow.lt k e).1)
        refine ⟨⟨t + 1, by omega, by go_num, ?_, k4⟩, by simp [intOf]; omega⟩
        rw [hps.out, List.map_append]
        exact hown'
    · obtain rfl : t = n1 := by omega
      rw [List.take_of_length_le (Nat.le_of_eq hn), show (qs.map fun q => Value.int .i64 q.1) = (qs.map Prod.fst).map (Value.int .i64) by rw [List.map_map]; rfl] at hrow
      obtain ⟨ad', cp', rfl, hIV⟩ := row_iv hrow
      clear hrow
      go_wp2
      go_ret
      exact ⟨ad', t, cp', qs, rfl, hIV, hn1, hStd, hcs, grow_step kr k1.out⟩
end Go.Proofs.Ytpjngmllbkcclaa
