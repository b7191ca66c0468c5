/-
  Walks of the reference package: Text.
-/
import Derived.Test.YtepdckgfolkjjaaGreatDoorR08
import Derived.Test.YtepdckgfolkjjaaGreatDoorR07
import Derived.Lib.SlBytesRow
namespace Go.Proofs.YtepdckgfolkjjaaGreatDoor.Bt
open Go.RowKit

theorem row_alloc (w : World) (xs : List Int) : Row (w.alloc (.cells (U xs) 5)) w.heap.size xs:=heap_alloc_new w _
theorem Out.alloc {w0 w : World} {ad : Option Addr} {n cap : Nat} {X : List Int} (h : Out w0 w ad n cap X) (o : Obj) : Out w0 (w.alloc o) ad n cap X :=
  h.keep (h.1.alloc h.1.size _) (fun _ hb => Below.heap_alloc _ _ _ (h.lt hb).2)
theorem made_zero (n : Nat) : madeCells #[.int .u8 0] n = U (List.replicate n 0):=by
  apply Array.ext'
  rw [toList_madeCells_one]
  simp [U]

theorem run_mk (n : Nat) (hn : n≤70368744177664) (u : World) : (Instr.makeSlice 100 (.int .i64 (n : Int)) (.int .i64 (n : Int))).run Tryz.prog u =
      .ok (.slice (some ⟨u.heap.size,0,none⟩) n n) (u.alloc (.cells (U (List.replicate n 0)) 5)):=by
  obtain ⟨i0,hi,hz0,hz1,hz2⟩:=info_parts info49a
  have h:=run_make (P:=Tryz.prog) u 100 5 i0 (.int .u8 0) Tryz.underlying100 hi hz0 .i64 .i64 (n : Int) (n : Int) (by omega) (Int.le_refl _) (by rw [hz2]; omega) (by omega)
  rw [Int.toNat_natCast] at h
  rw [← made_zero]
  simpa [hz1,Value.cells] using h

theorem run_append_one {w0 w : World} {ad : Option Addr} {n cap : Nat} {xs : List Int} (hO : Out w0 w ad n cap xs) (ty : TypeId) (x : Int) (h0 : 0≤x) (h1 : x < 256) (hbig : n + 1≤35184372088832) :
    ∃ v' w',(Builtin.append_ #[100,100] ty #[.slice ad n cap,.slice (some ⟨w.heap.size,0,none⟩) 1 1]).run Tryz.prog (w.alloc (.cells #[.int .u8 x] 5)) = .ok v' w' ∧
      ∃ ad' cap',v' = .slice ad' (n + 1) cap'∧Out w0 w' ad' (n + 1) cap' (xs ++ [x])∧(∀ k,k < w.heap.size→blk ad ≠ some k→w'.heap[k]? = w.heap[k]?)∧w.heap.size≤w'.heap.size∧(∀ k,blk ad' = some k→blk ad = some k ∨ w.heap.size≤k):=by
  obtain ⟨v',w',hr,ad',cap',hv,ho,hg,hbk⟩:=run_append_out (hO.alloc (.cells #[.int .u8 x] 5)) ty ⟨w.heap.size,0,none⟩ 1 1 [x] rfl (fun z hz => by rw [List.mem_singleton.1 hz]; exact ⟨h0,h1⟩) (fun j hj => by
    obtain rfl : j = 0:=by omega
    rw [Addr.add_lit]
    exact (row_alloc w [x]).cell (i:=0) (by simp)) hbig
  refine ⟨v',w',hr,ad',cap',hv,ho,fun k hk hne => ?_,?_,fun k hk => ?_⟩
  · rw [hg.block k (by simp; omega) (fun e => hne e.symm)]
    exact Below.heap_alloc _ _ _ hk
  · have:=hg.size; simp at this; omega
  · rcases hbk k hk with h | h
    · exact .inl h
    · exact .inr (by simp at h; omega)
end Go.Proofs.YtepdckgfolkjjaaGreatDoor.Bt

namespace Go.Proofs.YtepdckgfolkjjaaGreatDoor
open Go.RowKit

theorem pb_ten (k : Nat) : pb k = ((10 ^ (9 * k) : Nat) : Int):=by
  induction k with
  | zero => rfl
  | succ k ih =>
    rw [show 9 * (k + 1) = 9 * k + 9 from by omega,Nat.pow_add,show 10 ^ 9 = 1000000000 from rfl,Int.natCast_mul]
    show 1000000000 * pb k = _
    rw [ih]
    omega

def tops (u : Nat) : List UInt8:=if u = 0 then [] else Lib.decDigits u
theorem tops_step {u : Nat} (h : u ≠ 0) : tops u = tops (u / 10) ++ [UInt8.ofNat (48 + u % 10)]:=by
  unfold tops
  rw [if_neg h]
  by_cases h1 : u < 10
  · rw [if_pos (by omega),dec_small u h1,Nat.mod_eq_of_lt h1]; rfl
  · rw [if_neg (by omega),dec_step u h1]
theorem dec_ne (u : Nat) : 0 < (Lib.decDigits u).length:=by
  by_cases h1 : u < 10
  · rw [dec_small u h1]; simp
  · rw [dec_step u h1]; simp
def revB (ts : List Int) : List UInt8:=(ts.map fun z => UInt8.ofNat z.toNat).reverse
theorem revB_snoc (ts : List Int) (d : Int) : revB (ts ++ [d]) = UInt8.ofNat d.toNat :: revB ts:=by
  simp [revB]
theorem revB_len (ts : List Int) : (revB ts).length = ts.length:=by simp [revB]

def TurnRel (w1 : World) (n0 : Int) (l1 : Nat) (gk : Nat) (x t : Value) (wr : World) : Prop :=
  ∃ (ax : Option Addr) (lx cx : Nat) (X : List Int) (at' : Option Addr) (k ct : Nat) (ts : List Int),x = .slice ax lx cx∧t = .slice at' k ct∧Out w1 wr ax lx cx X∧Canon X∧Bt.Out w1 wr at' k ct ts∧(∀ b,blk ax = some b→blk at' ≠ some b)∧lx≤l1∧Hid (Lib.decDigits n0.toNat = tops (val X).toNat ++ revB ts)∧gk = (val X).toNat

theorem turn_step {n0 v : Int} {ts : List Int} (h : Lib.decDigits n0.toNat = tops v.toNat ++ revB ts) (hv : 0 < v) : Lib.decDigits n0.toNat = tops (v / 10).toNat ++ revB (ts ++ [48 + v % 10]):=by
  rw [h,tops_step (by omega),revB_snoc,List.append_assoc]
  have e1 : v.toNat / 10 = (v / 10).toNat:=by omega
  have e2 : 48 + v.toNat % 10 = (48 + v % 10).toNat:=by omega
  rw [e1,e2]
  rfl

theorem decLen_bd {n : Int} {l : Nat} (h0 : 0≤n) (h : n < pw l) : (Lib.decDigits n.toNat).length≤18 * l + 1:=by
  have h1:=pb_pw l
  rw [pb_ten] at h1
  refine Nat.le_trans (dec_length_le (9 * (2 * l) + 1) n.toNat ?_ (by omega)) (by omega)
  rw [Nat.pow_succ]
  omega

theorem rev_out {Z ts : List Int} {k : Nat} (hZ : Z.length = k) (ht : ts.length = k) (h : ∀ j,j < k→lz Z j = lz ts (k - 1 - j)) : Z = ts.reverse:=by
  refine list_ext_lz (by rw [hZ,List.length_reverse,ht]) (fun j hj => ?_)
  rw [h j (by omega)]
  simp only [lz,List.getD]
  rw [List.getElem?_reverse (by omega),ht]

theorem str_rev {Z ts : List Int} (h : Z = ts.reverse) : strOfNums Z = ⟨(revB ts).toArray⟩:=by
  apply ByteArray.ext
  apply Array.toList_inj.1
  rw [strOfNums_data,h]
  simp [revB]

set_option maxRecDepth 100000 in
set_option maxHeartbeats 3200000 in
theorem reftext_any {a1 : Option Addr} {l1 c1 : Nat} {xs : List Int} {w : World} (h1 : Rd w a1 l1 c1 xs) (hl1 : l1≤17179869184) :
    Calls Tryz.prog 105 #[.slice a1 l1 c1] w fun e w' => e = .returned (.string ⟨(Lib.decDigits (val xs).toNat).toArray⟩)∧Below w.heap.size w w':=by
  have hxL:=h1.2.2.2.1
  go_enter Tryz.func105,Tryz.ntmps105
  go_wp2_with fail
  refine (trim_any h1 (by omega)).mono ?_
  rintro e w1 ⟨rfl,ho1, -⟩
  have hn:=tl_le xs l1
  have hc:=canon_trim hxL
  have hv:=val_trim xs
  have k1:=ho1.1
  have hrd:=ho1.rd
  generalize trim xs = X at *
  generalize tl xs l1 = n at *
  by_cases h0 : n = 0
  · subst h0
    have hX : X = []:=List.eq_nil_of_length_eq_zero hrd.1
    subst hX
    go_wp2_with fail
    go_ret
    refine ⟨?_,k1⟩
    rw [← hv]
    kernel_rfl
  · have hpos : 0 < val X:=by
      have:=canon_low hc (by rw [hrd.1]; omega)
      have:=pw_pos (X.length - 1)
      omega
    have hlt : val xs < pw l1:=by
      have:=(vl_bd hxL l1).2
      unfold val
      rw [h1.1]
      exact this
    have hdl:=decLen_bd (val_nonneg hxL) hlt
    have hn0 : (0 : Int) < (n : Int):=by omega
    have hnb : ((n : Int) == 0) = false:=by rw [beq_eq_false_iff_ne]; omega
    have hstart : Hid (TurnRel w (val xs) l1 (val X).toNat (.slice (some ⟨w.heap.size,0,none⟩) n n) (.slice none 0 0) w1):=by
      refine ⟨_,n,n,X,none,0,0,[],rfl,rfl,ho1,hc,⟨k1,.inl ⟨rfl,rfl,rfl,rfl⟩⟩,fun b _ h => (by cases h),hn,?_,rfl⟩
      show _ = _
      rw [hv,tops,if_neg (by omega)]
      simp [revB]
    clear ho1 hc hrd k1
    go_wp2_with fail
    go_loopg [3,4] (val X).toNat (fun gk x t wr => TurnRel w (val xs) l1 gk x t wr)
    case atStart => exact unhide hstart
    case round =>
      obtain ⟨ax,lx,cx,X2,at',k,ct,ts,rfl,rfl,hoX,hcX,hoT,hdj,hlx,HD,rfl⟩:=hrel
      clear hstart
      have hkl : k≤18 * l1 + 1:=by
        have h:=congrArg List.length HD.out
        rw [List.length_append,revB_len,hoT.rd.1] at h
        omega
      by_cases hx0 : lx = 0
      · subst hx0
        have hX2 : X2 = []:=List.eq_nil_of_length_eq_zero hoX.rd.1
        subst hX2
        have hD : Hid (Lib.decDigits (val xs).toNat = revB ts):=by
          have h:=HD.out
          have e : tops (val []).toNat = []:=rfl
          rw [e,List.nil_append] at h
          exact h
        have hk0 : 0 < k:=by
          have h:=congrArg List.length hD.out
          rw [revB_len,hoT.rd.1] at h
          have:=dec_ne (val xs).toNat
          omega
        clear HD
        have hts:=hoT.rd.1
        have hmk:=Bt.run_mk k (by omega)
        have hrow:=Bt.row_alloc wr (List.replicate k 0)
        have hB0 : Below w.heap.size w (wr.alloc (.cells (Bt.U (List.replicate k 0)) 5)):=below_alloc' hoT.1 _
        obtain ⟨_,⟨rfl,h2,_⟩ | ⟨bT,tz,rfl,hbT,hrT,hlT,hnT,hleT,hmT,hzT⟩⟩:=id hoT
        · omega
        have hbT2:=hrT.lt
        have hrT2 : Bt.Row (wr.alloc (.cells (Bt.U (List.replicate k 0)) 5)) bT tz:=(Below.heap_alloc _ _ _ hbT2).trans hrT
        have HZT:=hide hzT
        have HTS:=hide hts
        clear hoT hdj hoX hzT hts
        go_wp2_with fail
        clear hmk
        generalize wr.alloc (.cells (Bt.U (List.replicate k 0)) 5) = wA at *
        have hbz : bT ≠ wr.heap.size:=by omega
        have hbw:=hB0.size
        have hbz2 : w.heap.size≤wr.heap.size:=by omega
        clear hrT hbT2
        generalize wr.heap.size = bZ at *
        go_loopw [8] (fun i wi => ∃ (j : Nat) (Z : List Int),j≤k∧i = .int .i64 j∧Z.length = k∧Bt.Limbs Z∧Bt.Row wi bZ Z∧Bt.Row wi bT tz∧Below w.heap.size w wi∧Hid (∀ m,m < j→lz Z m = lz ts (k - 1 - m))) (fun i _ => k - (intOf i).toNat)
        case atStart => exact ⟨0,_,Nat.zero_le _,rfl,List.length_replicate,Bt.Limbs.replicate _,hrow,hrT2,hB0,fun m hm => absurd hm (by omega)⟩
        case round =>
          obtain ⟨j,Z,hj,rfl,hZl,hZL,hZ,hT,hB,HZ⟩:=hrel
          by_cases hjk : j < k
          · have c1:=hT.cell (i:=k - 1 - j) (by omega)
            have c2:=hZ.cell (i:=j) (by omega)
            have f2:=hZ.frozen j
            have hsub : Hid ((k : Int) - 1 - (j : Int) = ((k - 1 - j : Nat) : Int)):=by show _ = _; omega
            have e9 : lz tz (k - 1 - j) = lz ts (k - 1 - j):=by
              rw [HZT.out,lz_take,if_pos (by omega)]
            have b9:=Bt.lz_bd hlT (k - 1 - j)
            have HZ2 : Hid (∀ m,m < j + 1→lz (Z.set j (lz tz (k - 1 - j))) m = lz ts (k - 1 - m)):=by
              show ∀ _,_
              intro m hm
              rw [lz_set _ _ _ _ (by omega)]
              split
              · rename_i h; subst h; exact e9
              · exact HZ.out m (by omega)
            have hT2 : ∀ x,Bt.Row (wr.setCell ⟨bZ,j,none⟩ (.int .u8 x)) bT tz:=fun x => ((Only.set bZ j wr (.int .u8 x)).block bT hbz).trans hT
            generalize lz tz (k - 1 - j) = x9 at *
            clear e9
            go_wp2_with fail
            exact ⟨⟨j + 1,_,by omega,by go_num,by rw [List.length_set]; exact hZl,hZL.set j b9.1 b9.2,hZ.set j _,hT2 _,hB.setCell (by omega) _,HZ2⟩,by simp [intOf]; omega⟩
          · have hjk2 : j = k:=by omega
            subst hjk2
            have hZt:=rev_out hZl HTS.out HZ.out
            have hby:=Go.Lib.bytes_of_nums (w:=wr) (b:=bZ) (o:=0) (n:=j) hZl hZL (fun i hi => by rw [Nat.zero_add]; exact hZ.cell (by omega))
            have hcv:=Go.Lib.run_convert_whole (P:=Tryz.prog) wr 100 5 9 Tryz.underlying100 Tryz.underlying5 Tryz.underlying9 bZ 0 (strOfNums Z) hby j
            have hsz : (strOfNums Z).size = j:=by rw [strOfNums_size]; exact hZl
            rw [hsz,str_rev hZt,← hD.out] at hcv
            clear hby hsz
            go_wp2_with fail
            go_ret
            exact ⟨rfl,hB⟩
      · have hpos2 : 0 < val X2:=by
          have:=canon_low hcX (by rw [hoX.rd.1]; omega)
          have:=pw_pos (X2.length - 1)
          omega
        have HN:=hide (turn_step HD.out hpos2)
        have hg : (0 : Int) < (lx : Int):=by omega
        clear HD
        go_wp2_with fail
        refine (refquo_any hoX.rd (by omega) (by decide) (by decide)).mono ?_
        rintro e w2 ⟨aq,lq,cq,zq,rfl,hoq,hcq,hvq,hlq⟩
        have hm1 : 0≤val X2 % 10∧val X2 % 10 < 10:=by omega
        have HQ:=hide hvq
        have hoT2 : Bt.Out w w2 at' k ct ts:=hoT.keep (grow_step hoq.1 hoT.1) (fun b hb => hoq.1.block b (hoT.lt hb).2)
        clear hvq
        have HMS:=hide (show (val X2 / 10).toNat < (val X2).toNat from by omega)
        generalize hr1 : val X2 % 10 = r1 at *
        have HR1:=hide hr1
        clear hr1
        go_wp2_with (at_builtin; refine wpList_append_run rfl _ _ 100 rfl _ _ rfl rfl _ (Bt.run_append_one hoT2 _ (48 + r1) (by omega) (by omega) (by omega)) ?_; rintro v' w4 ⟨adP',capP',rfl,hoP4,hfr4,hsz4,hbk4⟩)
        have hoq4 : Out w w4 aq lq cq zq:=(hoq.outer hoT.1).keep hoP4.1 (fun b hb => hfr4 b (hoq.lt hb).2 (fun e => by have:=(hoT.lt e).2; have:=(hoq.lt hb).1; omega))
        have hdj4 : ∀ b,blk aq = some b→blk adP' ≠ some b:=fun b hb e => by
          rcases hbk4 b e with h | h
          · have:=(hoT.lt h).2; have:=(hoq.lt hb).1; omega
          · have:=(hoq.lt hb).2; omega
        have hrel' : Hid (TurnRel w (val xs) l1 (val X2 / 10).toNat (.slice aq lq cq) (.slice adP' (k + 1) capP') w4):=by
          refine ⟨aq,lq,cq,zq,adP',k + 1,capP',ts ++ [48 + r1],rfl,rfl,hoq4,hcq,hoP4,hdj4,by omega,?_,by rw [HQ.out]⟩
          show _ = _
          rw [HQ.out]
          exact HN.out
        clear hfr4 hbk4 hdj hdj4 hoT hoT2 hoP4 hoq hoq4 HN
        go_wp2_with fail
        go_roundg (val X2 / 10).toNat
        case measure => exact HMS.out
        case rel => exact hrel'.out
end Go.Proofs.YtepdckgfolkjjaaGreatDoor
