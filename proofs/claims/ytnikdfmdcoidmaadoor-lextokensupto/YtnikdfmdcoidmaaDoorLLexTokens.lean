/-
  The walk of the law LexTokens.
-/
import Derived.Test.YtnikdfmdcoidmaaDoorXM
namespace Go.Proofs.YtnikdfmdcoidmaaDoor
open Go.RowKit Go.Shelf

set_option maxRecDepth 100000 in
set_option maxHeartbeats 6400000 in
theorem lexTokens_walk {s : ByteArray} {w : World} (hs : s.size ≤ 1048576) (hS : Sgn w) :
    Calls Tryd.prog 4 #[.string s] w fun e w' => e = .returned (.bool true) ∧ Below w.heap.size w w' := by
  go_enter Tryd.func4, Tryd.ntmps4
  go_wp2_with fail
  refine (reftokens_u s w (by omega)).mono ?_
  rintro e w1 ⟨ys, ya, yn, yc, x, p, hy, rfl, yrow, ymg, b1⟩
  have ylen := tokRes_len hy
  go_wp2_with fail
  have n1 := heap_alloc_new w1 (.cells #[.int .i64 x, .int .i64 p] 35)
  have k1 := below_alloc w1 (.cells #[.int .i64 x, .int .i64 p] 35)
  have s1 : w1.heap.size < (w1.alloc (.cells #[.int .i64 x, .int .i64 p] 35)).heap.size := by simp
  generalize hp1 : w1.heap.size = p1 at n1 s1
  replace hp1 := hide hp1
  have ylt : ∀ g, (Value.slice ya yn yc).ownBlock = some g → g < p1 := fun g hg => by rw [← hp1.out]; exact (yrow.lt g hg).2
  have ymlt : ∀ x ∈ ys, ∀ b, blk x.ad = some b → b < p1 := fun x hx b hb => by rw [← hp1.out]; exact ((ymg x hx).1.lt hb).2
  generalize hw1a : w1.alloc (.cells #[.int .i64 x, .int .i64 p] 35) = wa at *
  have yrow1 := owns_later yrow k1
  have ymg1 : ∀ x ∈ ys, Mg w wa x := fun x hx => (ymg x hx).later k1
  have ba := grow_step k1 b1
  clear yrow ymg b1 k1 hw1a
  refine (tokens_u s wa (by omega) (hS.below ba)).mono ?_
  rintro e w2 ⟨xs, xa, xn, xc, x', p', hx, rfl, xrow, xmg, xz, b2⟩
  obtain ⟨hxd, rfl, rfl⟩ := tokRes_unique hx hy
  have HXD := hide hxd
  clear hxd hx
  go_wp2_with fail
  have n2 := heap_alloc_new w2 (.cells #[.int .i64 x', .int .i64 p'] 35)
  have k2 := below_alloc w2 (.cells #[.int .i64 x', .int .i64 p'] 35)
  have s2 : w2.heap.size < (w2.alloc (.cells #[.int .i64 x', .int .i64 p'] 35)).heap.size := by simp
  generalize hp2 : w2.heap.size = p2 at n2 s2
  replace hp2 := hide hp2
  generalize hw2a : w2.alloc (.cells #[.int .i64 x', .int .i64 p'] 35) = wb at *
  have kab := grow_step k2 b2
  clear hw2a
  refine (tokens_u s wb (by omega) (hS.below (grow_step kab ba))).mono ?_
  rintro e w3 ⟨zs, za, zn, zc, x3, p3', hz, rfl, zrow, zmg, -, b3⟩
  obtain ⟨hzd, rfl, rfl⟩ := tokRes_unique hz hy
  have HZD := hide hzd
  have zlen := tokRes_len hz
  clear hzd hz
  have ka3 := grow_step b3 kab
  have m1 := block_later n1 ka3
  have m2 := block_later n2 b3
  have lt1 := (Array.getElem?_eq_some_iff.1 m1).1
  have lt2 := (Array.getElem?_eq_some_iff.1 m2).1
  have c10 : w3.cell? ⟨p1, 0, none⟩ = some (.int .i64 x3) := cell_of_row w3 _ 0 _ _ (0, 0) m1
  have c11 : w3.cell? ⟨p1, 1, none⟩ = some (.int .i64 (p3' : Nat)) := cell_of_row w3 _ 1 _ _ (0, 0) m1
  have c20 : w3.cell? ⟨p2, 0, none⟩ = some (.int .i64 x3) := cell_of_row w3 _ 0 _ _ (0, 0) m2
  have c21 : w3.cell? ⟨p2, 1, none⟩ = some (.int .i64 (p3' : Nat)) := cell_of_row w3 _ 1 _ _ (0, 0) m2
  have k3 := below_alloc w3 (.cells #[.int .i64 x3, .int .i64 p3'] 35)
  have kbc := grow_step k3 b3
  have kac := grow_step kbc kab
  have k2c := grow_step kbc k2
  have xlen : xs.length = ys.length := by have := congrArg List.length HXD.out; simpa using this
  replace xlen := hide xlen
  have A1 := are_t (owns_later xrow k2c) (owns_later yrow1 kac) (fun x hx => ⟨_, (xmg x hx).later k2c⟩) (fun x hx => ⟨_, (ymg1 x hx).later kac⟩) HXD.out (by rw [xlen.out]; omega)
  replace A1 := hide A1
  replace xmg := hide xmg
  replace ymg1 := hide ymg1
  replace zmg := hide zmg
  replace ylt := hide ylt
  replace ymlt := hide ymlt
  replace xz := hide xz
  go_wp2_with fail
  refine A1.out.mono ?_
  rintro e w4 ⟨rfl, b4⟩
  generalize w3.alloc (.cells #[.int .i64 x3, .int .i64 p3'] 35) = wc at *
  have k24 := grow_step b4 k2c
  have ka4 := grow_step b4 kac
  have kb4 := grow_step b4 kbc
  have k34 := grow_step b4 k3
  go_wp2_with fail
  refine (spoil3_any xrow xmg.out xz.out k24).mono ?_
  rintro e w5 ⟨rfl, hsp⟩
  have bsp : Below wa.heap.size w4 w5 := hsp.below (Nat.le_refl _)
  have kw5 : Below w.heap.size w w5 := (grow_step ka4 ba).trans (hsp.below ba.size)
  have zrow5 : w5.ownsRow wb.heap.size 52 5 (.slice za zn zc) zs.length (zs.flatMap V5) := own_spo (owns_later zrow k34) hsp (fun g hg => .inr (by have h1 := (zrow.lt g hg).1; have h2 := hp2.out; omega))
  have zmg5 : ∀ x ∈ zs, Mg wa w5 x := fun x hx => by
    have h0 := (zmg.out x hx).later k34
    exact mg_spo ⟨h0.1.outer kab, h0.2⟩ (ka4.trans bsp) hsp (fun b hb => .inr (by have h1 := ((zmg.out x hx).1.lt hb).1; have h2 := hp2.out; omega))
  have yrow5 : w5.ownsRow w.heap.size 54 5 (.slice ya yn yc) ys.length (ys.flatMap V5) := own_spo (owns_later yrow1 ka4) hsp (fun g hg => .inl (by have := ylt.out g hg; omega))
  have ymg5 : ∀ x ∈ ys, Mg w w5 x := fun x hx => mg_spo ((ymg1.out x hx).later ka4) kw5 hsp (fun b hb => .inl (by have := ymlt.out x hx b hb; omega))
  have A2 := are_t zrow5 yrow5 (fun x hx => ⟨_, zmg5 x hx⟩) (fun x hx => ⟨_, ymg5 x hx⟩) HZD.out (by omega)
  replace A2 := hide A2
  replace ymg5 := hide ymg5
  clear A1 zmg5 zrow5 zmg zrow xrow xmg xz yrow1 ymg1 ylt ymlt c10 c11 c20 c21 m1 m2 n1 n2 k2 k3 k34 k24 kb4 kbc kac k2c ka3 kab ka4 b2 b3 b4 hsp bsp lt1 lt2 s1 s2
  go_wp2_with fail
  refine A2.out.mono ?_
  rintro e w6 ⟨rfl, b6⟩
  have kw6 := grow_step b6 kw5
  go_wp2_with fail
  refine (tokens_u s w6 (by omega) (hS.below kw6)).mono ?_
  rintro e w7 ⟨cs, ca, cn, cc, x7, p7, hc, rfl, crow, cmg, -, b7⟩
  obtain ⟨hcd, rfl, rfl⟩ := tokRes_unique hc hy
  have clen := tokRes_len hc
  have k7 := below_alloc w7 (.cells #[.int .i64 x7, .int .i64 p7] 35)
  have k67 := grow_step k7 b7
  have k57 := grow_step k67 b6
  have A3 := are_t (owns_later crow k7) (owns_later yrow5 k57) (fun x hx => ⟨_, (cmg x hx).later k7⟩) (fun x hx => ⟨_, (ymg5.out x hx).later k57⟩) hcd (by omega)
  replace A3 := hide A3
  have kw7 := grow_step k67 kw6
  clear hc hcd cmg crow ymg5 A2 yrow5 hy HZD HXD
  go_wp2_with fail
  refine A3.out.mono ?_
  rintro e w8 ⟨rfl, b8⟩
  have kw8 := grow_step b8 kw7
  go_wp2_with fail
  refine (known3_any w8 (hS.below kw8)).mono ?_
  rintro e w9 ⟨rfl, b9⟩
  go_wp2_with fail
  go_ret
  exact ⟨rfl, grow_step b9 kw8⟩
end Go.Proofs.YtnikdfmdcoidmaaDoor
