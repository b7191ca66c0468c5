/-
 Several texts in one: BU,BV.
-/
import Derived.Test.YtepdckgfolkjjaaGreatDoorR29
import Derived.Test.YtepdckgfolkjjaaGreatDoorR03
import Derived.Lib.AppendIntMem
import Derived.Shelf.Strings.BuilderK
import Derived.Test.YtepdckgfolkjjaaGreatDoorR30
namespace Go.Proofs.YtepdckgfolkjjaaGreatDoor
open Go.RowKit Go.Sort Go.Shelf
open Tm At

theorem itoa_n (v : Int) (hv : I64 v) (w : World) (ht : Tab w) :
  Calls Tryz.prog 101 #[.int .i64 v] w fun e w' => e = .returned (.string ⟨(Lib.itoa v).toArray⟩)∧Below w.heap.size w w':=by
 refine (Any.strconv_Itoa Tryz.laysM171 v hv.1 hv.2 w ht).mono ?_
 rintro e w' ⟨rfl,k,os,rfl⟩
 exact ⟨rfl,Lib.below_grow _ _ (Nat.le_refl _) _ _⟩
theorem itoa_len {v : Int} (hv : I64 v) : (Lib.itoa v).length≤20:=by
 obtain ⟨h0,h1⟩:=hv
 unfold Lib.itoa
 split
 ·have:=dec_length_le 19 v.natAbs (by omega) (by omega)
  simp; omega
 ·have:=dec_length_le 19 v.toNat (by omega) (by omega)
  omega

def partT (first : Bool) (p : Int × Int) : List UInt8 :=
 (if p.2 < 0 then [45] else if first then [] else [43]) ++ ((if p.2.natAbs = 1 then [] else Lib.decDigits p.2.natAbs) ++ 118 :: Lib.itoa p.1)
def partsT (ps : List (Int × Int)) : Nat→List UInt8
 | 0 => []
 | i + 1 => partsT ps i ++ partT (i == 0) (ps.getD i (0,0))
def constT (k : Int) : List UInt8:=if k = 0 then [] else (if k < 0 then 45 else 43) :: Lib.decDigits k.natAbs
def termT (ps : List (Int × Int)) (k : Int) : List UInt8:=partsT ps ps.length ++ constT k

theorem partT_len {first : Bool} {p : Int × Int} {l : Nat} (hv : I64 p.1) (hl : (Lib.decDigits p.2.natAbs).length≤l) : (partT first p).length≤l + 22:=by
 have:=itoa_len hv
 unfold partT
 split <;> (try split) <;> (try split) <;> simp <;> omega

theorem Zn.neg {w : World} {s : Bool} {a : Option Addr} {l c : Nat} {z : Int} (h : Zn w s a l c z) : s = decide (z < 0):=by
 obtain ⟨n,hn,rfl,h0⟩:=h
 have h1:=hn.nm.nonneg
 cases s with
 | false => simp [sg]; omega
 | true =>
  have h2:=h0 rfl
  simp [sg]; omega
theorem Zn.dec {w : World} {s : Bool} {a : Option Addr} {l c : Nat} {z : Int} (h : Zn w s a l c z) : (Lib.decDigits z.natAbs).length≤10 * (l + 1):=by
 obtain ⟨n,hn,rfl, -⟩:=h
 have h1:=hn.nm.nonneg
 have h2:=dec_bound hn.nm
 have h3 : (sg s n).natAbs = n.toNat:=by cases s <;> simp [sg] <;> omega
 rw [h3]; exact h2
theorem zText_abs (z : Int) : zText ((z.natAbs : Nat) : Int) = ⟨(Lib.decDigits z.natAbs).toArray⟩:=by
 unfold zText
 rw [if_neg (by omega)]
 simp
theorem dec_not1 {n : Nat} (h : n ≠ 1) : Lib.decDigits n ≠ [49]:=by
 intro h1
 apply h
 by_cases hn : n < 10
 ·rw [dec_small n hn] at h1
  rcases (show n = 0 ∨ n = 1 ∨ n = 2 ∨ n = 3 ∨ n = 4 ∨ n = 5 ∨ n = 6 ∨ n = 7 ∨ n = 8 ∨ n = 9 by omega) with rfl | rfl | rfl | rfl | rfl | rfl | rfl | rfl | rfl | rfl <;> first | rfl | (exfalso; revert h1; decide)
 ·rw [dec_step n hn] at h1
  have:=congrArg List.length h1
  exfalso
  by_cases h3 : n / 10 < 10
  ·rw [dec_small _ h3] at this; simp at this
  ·rw [dec_step _ h3] at this; simp at this

theorem dec_one : (⟨(Lib.decDigits 1).toArray⟩ : ByteArray) = ⟨#[49]⟩:=by rw [dec_small 1 (by decide)]; rfl
theorem isF_below {T e : TypeId} {B b : Nat} {bs : List Value} {w w' : World} (h : Lib.IsBuilderF T e B b bs w) (hb : Below w.heap.size w w') : Lib.IsBuilderF T e B b bs w':=by
 have key : ∀ p,Lib.BuilderAtF T e B b p bs w→Lib.BuilderAtF T e B b p bs w':=by
  rintro p ⟨hB,v,hbk,hown,hne⟩
  have hlt : b < w.heap.size:=(Array.getElem?_eq_some_iff.1 hbk).1
  exact ⟨hB,v,by rw [hb.block b hlt]; exact hbk,hown.kept (row:=none) ⟨hb.os,hb.tape,hb.output,hb.size,fun k hk _ => hb.block k hk⟩ (by
   cases hq : v.ownBlock with
   | none => exact .inl rfl
   | some k => exact .inr (by simp)),hne⟩
 rcases h with h | h
 ·exact .inl (key _ h)
 ·exact .inr (key _ h)
theorem write_k (B b : Nat) (bs : List Value) (s : ByteArray) (w : World) (h : Lib.IsBuilderF 102 5 B b bs w) (hlen : bs.length + s.size≤140737488355328) (hBw : B≤w.heap.size) :
  Calls Tryz.prog 99 #[.pointer (some ⟨b,0,none⟩),.string s] w fun e w' => e = .returned (.tuple #[.int .i64 s.size,.nilIface])∧(Lib.BuilderAtF 102 5 B b (.pointer (some ⟨b,0,none⟩)) (bs ++ Lib.strCells s) w'∧Below B w w'∧Lib.OthersKept 5 (some b) w w') :=
 Any.Builder_WriteString_k { Tryz.lays105 with } Tryz.Builder_Extra_105 B b bs s w h hlen hBw
theorem string_k (B b : Nat) (l : List UInt8) (w : World) (h : Lib.IsBuilderF 102 5 B b (Lib.byteCells l) w) (hBw : B≤w.heap.size) :
  Calls Tryz.prog 102 #[.pointer (some ⟨b,0,none⟩)] w fun e w' => e = .returned (.string ⟨l.toArray⟩)∧Below B w w' :=
 (Any.Builder_String_any_k Tryz.lays169 Tryz.Builder_Extra_169 B b l w h hBw).mono fun _ _ h => ⟨h.1,h.2.2.1⟩
theorem PB.others {w w' : World} {q r : Nat} {v : Int} {s : Bool} {a : Option Addr} {l c : Nat} (h : PB w q v s a l c) (hk : Lib.OthersKept 5 (some r) w w') (hq : q ≠ r) : PB w' q v s a l c :=
 hk q _ h (fun e => hq (Option.some.inj e)) (fun c fz e => by cases e)

set_option maxRecDepth 100000 in
set_option maxHeartbeats 6400000 in
theorem termText_n {w : World} {ap : Option Addr} {n cp : Nat} {sk : Bool} {ak : Option Addr} {lk ck : Nat} {k : Int} {ps : List (Int × Int)} {B : Nat} (hP : Pn w ap n ps B) (hn : n≤1048576) (hk : Zn w sk ak lk ck k) (hlk : lk≤B) (hB : B≤4194304) (htab : Tab w) :
  Calls Tryz.prog 47 #[.agg #[.slice ap n cp,.bool sk,.slice ak lk ck]] w fun e w' => e = .returned (.string ⟨(termT ps k).toArray⟩)∧Below w.heap.size w w':=by
 go_enter Tryz.func47,Tryz.ntmps47
 go_wp2_with fail
 have x:=(tb_new w ap n cp sk ak lk ck).below (below_alloc _ (.cells #[.pointer none,.slice none 0 0] 102))
 have hbu:=Lib.IsBuilderF.of (builder_new 102 5 (w.alloc (.cells #[.slice ap n cp,.bool sk,.slice ak lk ck] 27)))
 rw [show (w.alloc (.cells #[.slice ap n cp,.bool sk,.slice ak lk ck] 27)).heap.size = w.heap.size + 1 from by simp] at hbu
 have hsz : w.heap.size + 1 + 1≤((w.alloc (.cells #[.slice ap n cp,.bool sk,.slice ak lk ck] 27)).alloc (.cells #[.pointer none,.slice none 0 0] 102)).heap.size:=by simp
 have b0 : Below w.heap.size w ((w.alloc (.cells #[.slice ap n cp,.bool sk,.slice ak lk ck] 27)).alloc (.cells #[.pointer none,.slice none 0 0] 102)):=below_alloc' (below_alloc _ _) _
 generalize ((w.alloc (.cells #[.slice ap n cp,.bool sk,.slice ak lk ck] 27)).alloc (.cells #[.pointer none,.slice none 0 0] 102)) = wb at *
 have hr1 : w.heap.size < w.heap.size + 1:=by omega
 have hrb : w.heap.size + 1 + 1≤wb.heap.size:=hsz
 generalize w.heap.size + 1 = r at *
 generalize hp : w.heap.size = p at *
 replace hp:=hide hp
 replace b0 : Hid (Below w.heap.size w wb):=hp.out.symm ▸ b0
 obtain ⟨hpl,hP⟩:=hP
 go_loopw [10] (fun i wr => ∃ t : Nat,t≤n∧i = .int .i64 t∧Lib.IsBuilderF 102 5 r r (Lib.byteCells (partsT ps t)) wr∧(partsT ps t).length≤t * (10 * (B + 1) + 22)∧Hid (Below r wb wr)) (fun i _ => n - (intOf i).toNat)
 case atStart => exact ⟨0,Nat.zero_le _,rfl,hbu,Nat.zero_le _,Below.refl _ _⟩
 case round =>
  obtain ⟨t,ht,rfl,hbu',hlen,kr⟩:=hrel
  clear hbu
  have kw : Hid (Below w.heap.size w wr):=b0.out.trans (kr.out.mono (by have:=hp.out; omega))
  have hrw : r + 1≤wr.heap.size:=Nat.le_trans hrb kr.out.size
  have xr : TB wr p ap n cp sk ak lk ck:=(kr.out.block p hr1).trans x
  by_cases htn : t < n
  ·rcases hP with h0 | ⟨bp,op,rfl,hbp,hPP⟩
   ·omega
   obtain ⟨s,a,l,c,e0',e1',e2',hz,hl,hv⟩:=hPP t (by omega)
   have e0:=(kw.out.cell (p:=⟨bp,op + t * 3,none⟩) hbp).trans e0'
   have e1:=(kw.out.cell (p:=⟨bp,op + t * 3 + 1,none⟩) hbp).trans e1'
   have e2:=(kw.out.cell (p:=⟨bp,op + t * 3 + 2,none⟩) hbp).trans e2'
   clear e0' e1' e2'
   have hstep : Hid (partsT ps (t + 1) = partsT ps t ++ partT (t == 0) ps[t]):=(show _ = _ by
    show partsT ps t ++ partT (t == 0) (ps.getD t (0,0)) = _
    rw [List.getD_eq_getElem?_getD,List.getElem?_eq_getElem (by omega)]; rfl)
   generalize ps[t] = pp at *
   obtain ⟨pv,pz⟩:=pp
   dsimp only at *
   have pb:=pb_new wr pv s a l c
   have kp:=below_alloc wr (.cells #[.int .i64 pv,.bool s,.slice a l c] 59)
   have hbup:=isF_below hbu' kp
   have HH:=hide (And.intro pb (And.intro kp hbup))
   have hs:=hide hz.neg
   have hzd:=hide hz.dec
   replace hlen:=hide hlen
   replace hv:=hide hv
   clear pb kp hbup hPP hbu' hk
   by_cases ht0 : t = 0
   ·subst ht0
    rw [Nat.zero_mul,Nat.add_zero] at e0 e1 e2
    cases s with
    | false =>
     go_wp2_with fail
     obtain ⟨pb,kp,hbup⟩:=HH.out
     clear HH e0 e1 e2
     have hqr : r < wr.heap.size:=by omega
     generalize hwp : wr.alloc (.cells #[.int .i64 pv,.bool false,.slice a l c] 59) = wp at *
     clear hwp
     have pbq:=pb
     have kq:=hide (kr.out.trans (kp.mono (by omega)))
     have hqq : r + 1≤wp.heap.size:=Nat.le_trans hrw kp.size
     have hbq:=hbup
     clear kp kr pb hbup
     obtain ⟨base,hbase⟩ : ∃ base,base = partsT ps 0:=⟨_,rfl⟩
     rw [← hbase] at hbq
     have hlb : Hid (base.length≤0 * (10 * (B + 1) + 22) + 1):=(show _≤_ by have:=hlen.out; rw [hbase]; omega)
     have hres : Hid (partsT ps (0 + 1) = base ++ ((if pz.natAbs = 1 then [] else Lib.decDigits pz.natAbs) ++ 118 :: Lib.itoa pv)):=(show _ = _ by
      rw [hstep.out,hbase]
      unfold partT
      have h:=of_decide_eq_false hs.out.symm
      simp [h])
     clear hbase
     refine (abs_n (hz.below (grow_step (Below.refl _ _) (b0.out.trans (kq.out.mono (by have:=hp.out; omega))))).zm (by omega)).mono ?_
     rintro e w1 ⟨s1,a1,l1,c1,rfl,hz1,k1,hl1⟩
     replace hbq:=isF_below hbq k1
     replace pbq:=pbq.below9 k1
     replace kq:=hide (kq.out.trans (k1.mono (by omega)))
     have hq1 : r + 1≤w1.heap.size:=Nat.le_trans hqq k1.size
     have ht1 : Tab w1:=htab.below (b0.out.trans (kq.out.mono (by have:=hp.out; omega)))
     clear k1
     go_wp2_with fail
     refine (ztext_n hz1.zm (by omega) ht1).mono ?_
     rintro e w2 ⟨rfl,k2⟩
     rw [zText_abs]
     replace hbq:=isF_below hbq k2
     replace pbq:=pbq.below9 k2
     replace kq:=hide (kq.out.trans (k2.mono (by omega)))
     have hq2 : r + 1≤w2.heap.size:=Nat.le_trans hq1 k2.size
     have ht2 : Tab w2:=ht1.below k2
     clear k2 hz1 ht1
     by_cases h1 : pz.natAbs = 1
     ·have hres' : Hid (partsT ps (0 + 1) = base ++ 118 :: Lib.itoa pv):=(show _ = _ by rw [hres.out,if_pos h1]; simp)
      rw [h1,dec_one]
      have q0:=pbq.c0
      go_wp2_with fail
      refine (itoa_n pv hv.out _ ht2).mono ?_
      rintro e w3 ⟨rfl,k3⟩
      replace hbq:=isF_below hbq k3
      replace kq:=hide (kq.out.trans (k3.mono (by omega)))
      have hq3 : r + 1≤w3.heap.size:=Nat.le_trans hq2 k3.size
      have hd2:=itoa_len hv.out
      clear k3 q0
      generalize hD : Lib.itoa pv = D at *
      go_wp2_with fail
      rw [ba_cons]
      refine (write_k r r _ _ w3 hbq (by rw [Lib.byteCells_length,size_list]; have:=hlb.out; have : 0 * (10 * (B + 1) + 22)≤1048576 * 41943080:=Nat.mul_le_mul (by omega) (by omega); simp; omega) (by omega)).mono ?_
      rintro e w4 ⟨rfl,hbu4,k4, -⟩
      rw [strCells_list,byteCells_append,← hres'.out] at hbu4
      have hlen' : (partsT ps (0 + 1)).length≤(0 + 1) * (10 * (B + 1) + 22):=by
       have:=hlb.out
       rw [hres'.out,Nat.add_mul,Nat.one_mul]; simp; omega
      have kr4:=hide (kq.out.trans k4)
      clear hbq k4 kq
      go_wp2
      go_round
      case rel => exact ⟨1,by omega,by go_num,.inr hbu4,hlen',kr4.out⟩
      case measure => simp [intOf]; try omega
     ·have hres' : Hid (partsT ps (0 + 1) = base ++ Lib.decDigits pz.natAbs ++ 118 :: Lib.itoa pv):=(show _ = _ by rw [hres.out,if_neg h1]; simp)
      have hne : (Lib.decDigits pz.natAbs == [49]) = false:=by rw [beq_eq_false_iff_ne]; exact dec_not1 h1
      have hzl:=hzd.out
      generalize Lib.decDigits pz.natAbs = Z at *
      go_wp2_with fail
      clear hne
      refine (write_k r r _ _ w2 hbq (by rw [Lib.byteCells_length,size_list]; have:=hlb.out; have : 0 * (10 * (B + 1) + 22)≤1048576 * 41943080:=Nat.mul_le_mul (by omega) (by omega); omega) (by omega)).mono ?_
      rintro e w5 ⟨rfl,hb5,k5,ok5⟩
      rw [strCells_list,byteCells_append] at hb5
      have pb5:=pbq.others ok5 (by omega)
      replace kq:=hide (kq.out.trans k5)
      have hq5 : r + 1≤w5.heap.size:=Nat.le_trans hq2 k5.size
      have ht5 : Tab w5:=htab.below (b0.out.trans (kq.out.mono (by have:=hp.out; omega)))
      clear k5 ok5 pbq hbq ht2
      have q0:=pb5.c0
      go_wp2_with fail
      refine (itoa_n pv hv.out _ ht5).mono ?_
      rintro e w3 ⟨rfl,k3⟩
      replace hb5:=isF_below (.inr hb5) k3
      replace kq:=hide (kq.out.trans (k3.mono (by omega)))
      have hq3 : r + 1≤w3.heap.size:=Nat.le_trans hq5 k3.size
      have hd2:=itoa_len hv.out
      clear k3 q0
      generalize hD : Lib.itoa pv = D at *
      go_wp2_with fail
      rw [ba_cons]
      refine (write_k r r _ _ w3 hb5 (by rw [Lib.byteCells_length,size_list]; have:=hlb.out; have : 0 * (10 * (B + 1) + 22)≤1048576 * 41943080:=Nat.mul_le_mul (by omega) (by omega); simp; omega) (by omega)).mono ?_
      rintro e w4 ⟨rfl,hbu4,k4, -⟩
      rw [strCells_list,byteCells_append,← hres'.out] at hbu4
      have hlen' : (partsT ps (0 + 1)).length≤(0 + 1) * (10 * (B + 1) + 22):=by
       have:=hlb.out
       rw [hres'.out,Nat.add_mul,Nat.one_mul]; simp; omega
      have kr4:=hide (kq.out.trans k4)
      clear hb5 k4 kq
      go_wp2
      go_round
      case rel => exact ⟨1,by omega,by go_num,.inr hbu4,hlen',kr4.out⟩
      case measure => simp [intOf]; try omega
    | true =>
     go_wp2_with fail
     obtain ⟨pb,kp,hbup⟩:=HH.out
     clear HH e0 e1 e2
     have hqr : r < wr.heap.size:=by omega
     generalize hwp : wr.alloc (.cells #[.int .i64 pv,.bool true,.slice a l c] 59) = wp at *
     clear hwp
     refine (sign6_n).mono ?_
     rintro e w0 ⟨rfl,k0⟩
     replace hbup:=isF_below hbup k0
     replace pb:=pb.below9 k0
     have kq0 : Hid (Below r wb w0):=kr.out.trans ((grow_step k0 kp).mono (by omega))
     have hq0 : r + 1≤w0.heap.size:=Nat.le_trans hrw (grow_step k0 kp).size
     clear k0 kp kr
     go_wp2_with fail
     refine (write_k r r _ _ w0 hbup (by rw [Lib.byteCells_length]; have:=hlen.out; have : 0 * (10 * (B + 1) + 22)≤1048576 * 41943080:=Nat.mul_le_mul (by omega) (by omega); simp [ByteArray.size]; omega) (by omega)).mono ?_
     rintro e wq ⟨rfl,hbq',kq',ok⟩
     have pbq:=pb.others ok (by omega)
     have kq:=hide (kq0.out.trans kq')
     have hqq : r + 1≤wq.heap.size:=Nat.le_trans hq0 kq'.size
     rw [show (⟨#[45]⟩ : ByteArray) = ⟨([45] : List UInt8).toArray⟩ from rfl,strCells_list,byteCells_append] at hbq'
     have hbq : Lib.IsBuilderF _ _ r r _ wq:=.inr hbq'
     clear hbq' kq' ok kq0 hq0 hbup pb
     obtain ⟨base,hbase⟩ : ∃ base,base = partsT ps 0 ++ [45]:=⟨_,rfl⟩
     rw [← hbase] at hbq
     have hlb : Hid (base.length≤0 * (10 * (B + 1) + 22) + 1):=(show _≤_ by have:=hlen.out; rw [hbase,List.length_append,List.length_singleton]; omega)
     have hres : Hid (partsT ps (0 + 1) = base ++ ((if pz.natAbs = 1 then [] else Lib.decDigits pz.natAbs) ++ 118 :: Lib.itoa pv)):=(show _ = _ by
      rw [hstep.out,hbase]
      unfold partT
      have h:=of_decide_eq_true hs.out.symm
      simp [h])
     clear hbase
     have p1:=pbq.c1
     have p2:=pbq.c2
     go_wp2_with fail
     clear p1 p2
     refine (abs_n (hz.below (grow_step (Below.refl _ _) (b0.out.trans (kq.out.mono (by have:=hp.out; omega))))).zm (by omega)).mono ?_
     rintro e w1 ⟨s1,a1,l1,c1,rfl,hz1,k1,hl1⟩
     replace hbq:=isF_below hbq k1
     replace pbq:=pbq.below9 k1
     replace kq:=hide (kq.out.trans (k1.mono (by omega)))
     have hq1 : r + 1≤w1.heap.size:=Nat.le_trans hqq k1.size
     have ht1 : Tab w1:=htab.below (b0.out.trans (kq.out.mono (by have:=hp.out; omega)))
     clear k1
     go_wp2_with fail
     refine (ztext_n hz1.zm (by omega) ht1).mono ?_
     rintro e w2 ⟨rfl,k2⟩
     rw [zText_abs]
     replace hbq:=isF_below hbq k2
     replace pbq:=pbq.below9 k2
     replace kq:=hide (kq.out.trans (k2.mono (by omega)))
     have hq2 : r + 1≤w2.heap.size:=Nat.le_trans hq1 k2.size
     have ht2 : Tab w2:=ht1.below k2
     clear k2 hz1 ht1
     by_cases h1 : pz.natAbs = 1
     ·have hres' : Hid (partsT ps (0 + 1) = base ++ 118 :: Lib.itoa pv):=(show _ = _ by rw [hres.out,if_pos h1]; simp)
      rw [h1,dec_one]
      have q0:=pbq.c0
      go_wp2_with fail
      refine (itoa_n pv hv.out _ ht2).mono ?_
      rintro e w3 ⟨rfl,k3⟩
      replace hbq:=isF_below hbq k3
      replace kq:=hide (kq.out.trans (k3.mono (by omega)))
      have hq3 : r + 1≤w3.heap.size:=Nat.le_trans hq2 k3.size
      have hd2:=itoa_len hv.out
      clear k3 q0
      generalize hD : Lib.itoa pv = D at *
      go_wp2_with fail
      rw [ba_cons]
      refine (write_k r r _ _ w3 hbq (by rw [Lib.byteCells_length,size_list]; have:=hlb.out; have : 0 * (10 * (B + 1) + 22)≤1048576 * 41943080:=Nat.mul_le_mul (by omega) (by omega); simp; omega) (by omega)).mono ?_
      rintro e w4 ⟨rfl,hbu4,k4, -⟩
      rw [strCells_list,byteCells_append,← hres'.out] at hbu4
      have hlen' : (partsT ps (0 + 1)).length≤(0 + 1) * (10 * (B + 1) + 22):=by
       have:=hlb.out
       rw [hres'.out,Nat.add_mul,Nat.one_mul]; simp; omega
      have kr4:=hide (kq.out.trans k4)
      clear hbq k4 kq
      go_wp2
      go_round
      case rel => exact ⟨1,by omega,by go_num,.inr hbu4,hlen',kr4.out⟩
      case measure => simp [intOf]; try omega
     ·have hres' : Hid (partsT ps (0 + 1) = base ++ Lib.decDigits pz.natAbs ++ 118 :: Lib.itoa pv):=(show _ = _ by rw [hres.out,if_neg h1]; simp)
      have hne : (Lib.decDigits pz.natAbs == [49]) = false:=by rw [beq_eq_false_iff_ne]; exact dec_not1 h1
      have hzl:=hzd.out
      generalize Lib.decDigits pz.natAbs = Z at *
      go_wp2_with fail
      clear hne
      refine (write_k r r _ _ w2 hbq (by rw [Lib.byteCells_length,size_list]; have:=hlb.out; have : 0 * (10 * (B + 1) + 22)≤1048576 * 41943080:=Nat.mul_le_mul (by omega) (by omega); omega) (by omega)).mono ?_
      rintro e w5 ⟨rfl,hb5,k5,ok5⟩
      rw [strCells_list,byteCells_append] at hb5
      have pb5:=pbq.others ok5 (by omega)
      replace kq:=hide (kq.out.trans k5)
      have hq5 : r + 1≤w5.heap.size:=Nat.le_trans hq2 k5.size
      have ht5 : Tab w5:=htab.below (b0.out.trans (kq.out.mono (by have:=hp.out; omega)))
      clear k5 ok5 pbq hbq ht2
      have q0:=pb5.c0
      go_wp2_with fail
      refine (itoa_n pv hv.out _ ht5).mono ?_
      rintro e w3 ⟨rfl,k3⟩
      replace hb5:=isF_below (.inr hb5) k3
      replace kq:=hide (kq.out.trans (k3.mono (by omega)))
      have hq3 : r + 1≤w3.heap.size:=Nat.le_trans hq5 k3.size
      have hd2:=itoa_len hv.out
      clear k3 q0
      generalize hD : Lib.itoa pv = D at *
      go_wp2_with fail
      rw [ba_cons]
      refine (write_k r r _ _ w3 hb5 (by rw [Lib.byteCells_length,size_list]; have:=hlb.out; have : 0 * (10 * (B + 1) + 22)≤1048576 * 41943080:=Nat.mul_le_mul (by omega) (by omega); simp; omega) (by omega)).mono ?_
      rintro e w4 ⟨rfl,hbu4,k4, -⟩
      rw [strCells_list,byteCells_append,← hres'.out] at hbu4
      have hlen' : (partsT ps (0 + 1)).length≤(0 + 1) * (10 * (B + 1) + 22):=by
       have:=hlb.out
       rw [hres'.out,Nat.add_mul,Nat.one_mul]; simp; omega
      have kr4:=hide (kq.out.trans k4)
      clear hb5 k4 kq
      go_wp2
      go_round
      case rel => exact ⟨1,by omega,by go_num,.inr hbu4,hlen',kr4.out⟩
      case measure => simp [intOf]; try omega
   ·have ht1 : (0 : Int) < (t : Int):=by omega
    cases s with
    | true =>
     go_wp2_with fail
     obtain ⟨pb,kp,hbup⟩:=HH.out
     clear HH e0 e1 e2
     have hqr : r < wr.heap.size:=by omega
     generalize hwp : wr.alloc (.cells #[.int .i64 pv,.bool true,.slice a l c] 59) = wp at *
     clear hwp
     refine (sign6_n).mono ?_
     rintro e w0 ⟨rfl,k0⟩
     replace hbup:=isF_below hbup k0
     replace pb:=pb.below9 k0
     have kq0 : Hid (Below r wb w0):=kr.out.trans ((grow_step k0 kp).mono (by omega))
     have hq0 : r + 1≤w0.heap.size:=Nat.le_trans hrw (grow_step k0 kp).size
     clear k0 kp kr
     go_wp2_with fail
     refine (write_k r r _ _ w0 hbup (by rw [Lib.byteCells_length]; have:=hlen.out; have : t * (10 * (B + 1) + 22)≤1048576 * 41943080:=Nat.mul_le_mul (by omega) (by omega); simp [ByteArray.size]; omega) (by omega)).mono ?_
     rintro e wq ⟨rfl,hbq',kq',ok⟩
     have pbq:=pb.others ok (by omega)
     have kq:=hide (kq0.out.trans kq')
     have hqq : r + 1≤wq.heap.size:=Nat.le_trans hq0 kq'.size
     rw [show (⟨#[45]⟩ : ByteArray) = ⟨([45] : List UInt8).toArray⟩ from rfl,strCells_list,byteCells_append] at hbq'
     have hbq : Lib.IsBuilderF _ _ r r _ wq:=.inr hbq'
     clear hbq' kq' ok kq0 hq0 hbup pb
     obtain ⟨base,hbase⟩ : ∃ base,base = partsT ps t ++ [45]:=⟨_,rfl⟩
     rw [← hbase] at hbq
     have hlb : Hid (base.length≤t * (10 * (B + 1) + 22) + 1):=(show _≤_ by have:=hlen.out; rw [hbase,List.length_append,List.length_singleton]; omega)
     have hres : Hid (partsT ps (t + 1) = base ++ ((if pz.natAbs = 1 then [] else Lib.decDigits pz.natAbs) ++ 118 :: Lib.itoa pv)):=(show _ = _ by
      rw [hstep.out,hbase]
      unfold partT
      have h:=of_decide_eq_true hs.out.symm
      simp [h])
     clear hbase
     have p1:=pbq.c1
     have p2:=pbq.c2
     go_wp2_with fail
     clear p1 p2
     refine (abs_n (hz.below (grow_step (Below.refl _ _) (b0.out.trans (kq.out.mono (by have:=hp.out; omega))))).zm (by omega)).mono ?_
     rintro e w1 ⟨s1,a1,l1,c1,rfl,hz1,k1,hl1⟩
     replace hbq:=isF_below hbq k1
     replace pbq:=pbq.below9 k1
     replace kq:=hide (kq.out.trans (k1.mono (by omega)))
     have hq1 : r + 1≤w1.heap.size:=Nat.le_trans hqq k1.size
     have ht1 : Tab w1:=htab.below (b0.out.trans (kq.out.mono (by have:=hp.out; omega)))
     clear k1
     go_wp2_with fail
     refine (ztext_n hz1.zm (by omega) ht1).mono ?_
     rintro e w2 ⟨rfl,k2⟩
     rw [zText_abs]
     replace hbq:=isF_below hbq k2
     replace pbq:=pbq.below9 k2
     replace kq:=hide (kq.out.trans (k2.mono (by omega)))
     have hq2 : r + 1≤w2.heap.size:=Nat.le_trans hq1 k2.size
     have ht2 : Tab w2:=ht1.below k2
     clear k2 hz1 ht1
     by_cases h1 : pz.natAbs = 1
     ·have hres' : Hid (partsT ps (t + 1) = base ++ 118 :: Lib.itoa pv):=(show _ = _ by rw [hres.out,if_pos h1]; simp)
      rw [h1,dec_one]
      have q0:=pbq.c0
      go_wp2_with fail
      refine (itoa_n pv hv.out _ ht2).mono ?_
      rintro e w3 ⟨rfl,k3⟩
      replace hbq:=isF_below hbq k3
      replace kq:=hide (kq.out.trans (k3.mono (by omega)))
      have hq3 : r + 1≤w3.heap.size:=Nat.le_trans hq2 k3.size
      have hd2:=itoa_len hv.out
      clear k3 q0
      generalize hD : Lib.itoa pv = D at *
      go_wp2_with fail
      rw [ba_cons]
      refine (write_k r r _ _ w3 hbq (by rw [Lib.byteCells_length,size_list]; have:=hlb.out; have : t * (10 * (B + 1) + 22)≤1048576 * 41943080:=Nat.mul_le_mul (by omega) (by omega); simp; omega) (by omega)).mono ?_
      rintro e w4 ⟨rfl,hbu4,k4, -⟩
      rw [strCells_list,byteCells_append,← hres'.out] at hbu4
      have hlen' : (partsT ps (t + 1)).length≤(t + 1) * (10 * (B + 1) + 22):=by
       have:=hlb.out
       rw [hres'.out,Nat.add_mul,Nat.one_mul]; simp; omega
      have kr4:=hide (kq.out.trans k4)
      clear hbq k4 kq
      go_wp2
      go_round
      case rel => exact ⟨t + 1,by omega,by go_num,.inr hbu4,hlen',kr4.out⟩
      case measure => simp [intOf]; try omega
     ·have hres' : Hid (partsT ps (t + 1) = base ++ Lib.decDigits pz.natAbs ++ 118 :: Lib.itoa pv):=(show _ = _ by rw [hres.out,if_neg h1]; simp)
      have hne : (Lib.decDigits pz.natAbs == [49]) = false:=by rw [beq_eq_false_iff_ne]; exact dec_not1 h1
      have hzl:=hzd.out
      generalize Lib.decDigits pz.natAbs = Z at *
      go_wp2_with fail
      clear hne
      refine (write_k r r _ _ w2 hbq (by rw [Lib.byteCells_length,size_list]; have:=hlb.out; have : t * (10 * (B + 1) + 22)≤1048576 * 41943080:=Nat.mul_le_mul (by omega) (by omega); omega) (by omega)).mono ?_
      rintro e w5 ⟨rfl,hb5,k5,ok5⟩
      rw [strCells_list,byteCells_append] at hb5
      have pb5:=pbq.others ok5 (by omega)
      replace kq:=hide (kq.out.trans k5)
      have hq5 : r + 1≤w5.heap.size:=Nat.le_trans hq2 k5.size
      have ht5 : Tab w5:=htab.below (b0.out.trans (kq.out.mono (by have:=hp.out; omega)))
      clear k5 ok5 pbq hbq ht2
      have q0:=pb5.c0
      go_wp2_with fail
      refine (itoa_n pv hv.out _ ht5).mono ?_
      rintro e w3 ⟨rfl,k3⟩
      replace hb5:=isF_below (.inr hb5) k3
      replace kq:=hide (kq.out.trans (k3.mono (by omega)))
      have hq3 : r + 1≤w3.heap.size:=Nat.le_trans hq5 k3.size
      have hd2:=itoa_len hv.out
      clear k3 q0
      generalize hD : Lib.itoa pv = D at *
      go_wp2_with fail
      rw [ba_cons]
      refine (write_k r r _ _ w3 hb5 (by rw [Lib.byteCells_length,size_list]; have:=hlb.out; have : t * (10 * (B + 1) + 22)≤1048576 * 41943080:=Nat.mul_le_mul (by omega) (by omega); simp; omega) (by omega)).mono ?_
      rintro e w4 ⟨rfl,hbu4,k4, -⟩
      rw [strCells_list,byteCells_append,← hres'.out] at hbu4
      have hlen' : (partsT ps (t + 1)).length≤(t + 1) * (10 * (B + 1) + 22):=by
       have:=hlb.out
       rw [hres'.out,Nat.add_mul,Nat.one_mul]; simp; omega
      have kr4:=hide (kq.out.trans k4)
      clear hb5 k4 kq
      go_wp2
      go_round
      case rel => exact ⟨t + 1,by omega,by go_num,.inr hbu4,hlen',kr4.out⟩
      case measure => simp [intOf]; try omega
    | false =>
     go_wp2_with fail
     obtain ⟨pb,kp,hbup⟩:=HH.out
     clear HH e0 e1 e2
     have hqr : r < wr.heap.size:=by omega
     generalize hwp : wr.alloc (.cells #[.int .i64 pv,.bool false,.slice a l c] 59) = wp at *
     clear hwp
     refine (sign6_n).mono ?_
     rintro e w0 ⟨rfl,k0⟩
     replace hbup:=isF_below hbup k0
     replace pb:=pb.below9 k0
     have kq0 : Hid (Below r wb w0):=kr.out.trans ((grow_step k0 kp).mono (by omega))
     have hq0 : r + 1≤w0.heap.size:=Nat.le_trans hrw (grow_step k0 kp).size
     clear k0 kp kr
     go_wp2_with fail
     refine (write_k r r _ _ w0 hbup (by rw [Lib.byteCells_length]; have:=hlen.out; have : t * (10 * (B + 1) + 22)≤1048576 * 41943080:=Nat.mul_le_mul (by omega) (by omega); simp [ByteArray.size]; omega) (by omega)).mono ?_
     rintro e wq ⟨rfl,hbq',kq',ok⟩
     have pbq:=pb.others ok (by omega)
     have kq:=hide (kq0.out.trans kq')
     have hqq : r + 1≤wq.heap.size:=Nat.le_trans hq0 kq'.size
     rw [show (⟨#[43]⟩ : ByteArray) = ⟨([43] : List UInt8).toArray⟩ from rfl,strCells_list,byteCells_append] at hbq'
     have hbq : Lib.IsBuilderF _ _ r r _ wq:=.inr hbq'
     clear hbq' kq' ok kq0 hq0 hbup pb
     obtain ⟨base,hbase⟩ : ∃ base,base = partsT ps t ++ [43]:=⟨_,rfl⟩
     rw [← hbase] at hbq
     have hlb : Hid (base.length≤t * (10 * (B + 1) + 22) + 1):=(show _≤_ by have:=hlen.out; rw [hbase,List.length_append,List.length_singleton]; omega)
     have hres : Hid (partsT ps (t + 1) = base ++ ((if pz.natAbs = 1 then [] else Lib.decDigits pz.natAbs) ++ 118 :: Lib.itoa pv)):=(show _ = _ by
      rw [hstep.out,hbase]
      unfold partT
      have h:=of_decide_eq_false hs.out.symm
      simp [h,ht0])
     clear hbase
     have p1:=pbq.c1
     have p2:=pbq.c2
     go_wp2_with fail
     clear p1 p2
     refine (abs_n (hz.below (grow_step (Below.refl _ _) (b0.out.trans (kq.out.mono (by have:=hp.out; omega))))).zm (by omega)).mono ?_
     rintro e w1 ⟨s1,a1,l1,c1,rfl,hz1,k1,hl1⟩
     replace hbq:=isF_below hbq k1
     replace pbq:=pbq.below9 k1
     replace kq:=hide (kq.out.trans (k1.mono (by omega)))
     have hq1 : r + 1≤w1.heap.size:=Nat.le_trans hqq k1.size
     have ht1 : Tab w1:=htab.below (b0.out.trans (kq.out.mono (by have:=hp.out; omega)))
     clear k1
     go_wp2_with fail
     refine (ztext_n hz1.zm (by omega) ht1).mono ?_
     rintro e w2 ⟨rfl,k2⟩
     rw [zText_abs]
     replace hbq:=isF_below hbq k2
     replace pbq:=pbq.below9 k2
     replace kq:=hide (kq.out.trans (k2.mono (by omega)))
     have hq2 : r + 1≤w2.heap.size:=Nat.le_trans hq1 k2.size
     have ht2 : Tab w2:=ht1.below k2
     clear k2 hz1 ht1
     by_cases h1 : pz.natAbs = 1
     ·have hres' : Hid (partsT ps (t + 1) = base ++ 118 :: Lib.itoa pv):=(show _ = _ by rw [hres.out,if_pos h1]; simp)
      rw [h1,dec_one]
      have q0:=pbq.c0
      go_wp2_with fail
      refine (itoa_n pv hv.out _ ht2).mono ?_
      rintro e w3 ⟨rfl,k3⟩
      replace hbq:=isF_below hbq k3
      replace kq:=hide (kq.out.trans (k3.mono (by omega)))
      have hq3 : r + 1≤w3.heap.size:=Nat.le_trans hq2 k3.size
      have hd2:=itoa_len hv.out
      clear k3 q0
      generalize hD : Lib.itoa pv = D at *
      go_wp2_with fail
      rw [ba_cons]
      refine (write_k r r _ _ w3 hbq (by rw [Lib.byteCells_length,size_list]; have:=hlb.out; have : t * (10 * (B + 1) + 22)≤1048576 * 41943080:=Nat.mul_le_mul (by omega) (by omega); simp; omega) (by omega)).mono ?_
      rintro e w4 ⟨rfl,hbu4,k4, -⟩
      rw [strCells_list,byteCells_append,← hres'.out] at hbu4
      have hlen' : (partsT ps (t + 1)).length≤(t + 1) * (10 * (B + 1) + 22):=by
       have:=hlb.out
       rw [hres'.out,Nat.add_mul,Nat.one_mul]; simp; omega
      have kr4:=hide (kq.out.trans k4)
      clear hbq k4 kq
      go_wp2
      go_round
      case rel => exact ⟨t + 1,by omega,by go_num,.inr hbu4,hlen',kr4.out⟩
      case measure => simp [intOf]; try omega
     ·have hres' : Hid (partsT ps (t + 1) = base ++ Lib.decDigits pz.natAbs ++ 118 :: Lib.itoa pv):=(show _ = _ by rw [hres.out,if_neg h1]; simp)
      have hne : (Lib.decDigits pz.natAbs == [49]) = false:=by rw [beq_eq_false_iff_ne]; exact dec_not1 h1
      have hzl:=hzd.out
      generalize Lib.decDigits pz.natAbs = Z at *
      go_wp2_with fail
      clear hne
      refine (write_k r r _ _ w2 hbq (by rw [Lib.byteCells_length,size_list]; have:=hlb.out; have : t * (10 * (B + 1) + 22)≤1048576 * 41943080:=Nat.mul_le_mul (by omega) (by omega); omega) (by omega)).mono ?_
      rintro e w5 ⟨rfl,hb5,k5,ok5⟩
      rw [strCells_list,byteCells_append] at hb5
      have pb5:=pbq.others ok5 (by omega)
      replace kq:=hide (kq.out.trans k5)
      have hq5 : r + 1≤w5.heap.size:=Nat.le_trans hq2 k5.size
      have ht5 : Tab w5:=htab.below (b0.out.trans (kq.out.mono (by have:=hp.out; omega)))
      clear k5 ok5 pbq hbq ht2
      have q0:=pb5.c0
      go_wp2_with fail
      refine (itoa_n pv hv.out _ ht5).mono ?_
      rintro e w3 ⟨rfl,k3⟩
      replace hb5:=isF_below (.inr hb5) k3
      replace kq:=hide (kq.out.trans (k3.mono (by omega)))
      have hq3 : r + 1≤w3.heap.size:=Nat.le_trans hq5 k3.size
      have hd2:=itoa_len hv.out
      clear k3 q0
      generalize hD : Lib.itoa pv = D at *
      go_wp2_with fail
      rw [ba_cons]
      refine (write_k r r _ _ w3 hb5 (by rw [Lib.byteCells_length,size_list]; have:=hlb.out; have : t * (10 * (B + 1) + 22)≤1048576 * 41943080:=Nat.mul_le_mul (by omega) (by omega); simp; omega) (by omega)).mono ?_
      rintro e w4 ⟨rfl,hbu4,k4, -⟩
      rw [strCells_list,byteCells_append,← hres'.out] at hbu4
      have hlen' : (partsT ps (t + 1)).length≤(t + 1) * (10 * (B + 1) + 22):=by
       have:=hlb.out
       rw [hres'.out,Nat.add_mul,Nat.one_mul]; simp; omega
      have kr4:=hide (kq.out.trans k4)
      clear hb5 k4 kq
      go_wp2
      go_round
      case rel => exact ⟨t + 1,by omega,by go_num,.inr hbu4,hlen',kr4.out⟩
      case measure => simp [intOf]; try omega
  ·obtain rfl : t = n:=by omega
   have q1:=xr.c1
   have q2:=xr.c2
   go_wp2_with fail
   have hkr:=hk.below kw.out
   refine (zsign_n hkr.zm (by omega)).mono ?_
   rintro e w1 ⟨rfl,k1⟩
   have hbu1:=isF_below hbu' k1
   have x1:=xr.below k1
   have hk1:=hkr.below k1
   have hq1 : r + 1≤w1.heap.size:=Nat.le_trans hrw k1.size
   have kr1:=hide (kr.out.trans (k1.mono (by omega)))
   have hlb : Hid ((partsT ps t).length≤43980498665472):=(show _≤_ by have : t * (10 * (B + 1) + 22)≤1048576 * 41943072:=Nat.mul_le_mul (by omega) (by omega); omega)
   have htt : Hid (termT ps k = partsT ps t ++ constT k):=(show _ = _ by unfold termT; rw [hpl])
   clear hbu' xr hkr k1 q1 q2 kr hlen
   by_cases hk00 : k = 0
   ·subst hk00
    rw [show cmpI 0 0 = 0 from rfl]
    go_wp2_with fail
    refine (string_k _ _ _ w1 hbu1 (by omega)).mono ?_
    rintro e w2 ⟨rfl,k2⟩
    have kf : Hid (Below w.heap.size w w2):=(b0.out.trans ((kr1.out.trans k2).mono (by have:=hp.out; omega)))
    clear k2
    go_wp2
    go_ret
    exact ⟨by rw [htt.out]; simp [constT],kf.out⟩
   ·have hcz : cmpI k 0 ≠ 0:=cmpI_ne hk00
    generalize cmpI k 0 = cz at *
    have hs:=hk1.neg
    have ht1 : Tab w1:=htab.below (b0.out.trans (kr1.out.mono (by have:=hp.out; omega)))
    have hdl:=hk1.dec
    have hzt:=hide (zText_abs k)
    have hrle : r≤w1.heap.size:=by omega
    cases sk with
    | true =>
     have hres : Hid (partsT ps t ++ 45 :: Lib.decDigits k.natAbs = termT ps k):=(show _ = _ by rw [htt.out]; unfold constT; rw [if_neg hk00,if_pos (of_decide_eq_true hs.symm)])
     clear htt hs
     generalize Lib.decDigits k.natAbs = D at *
     generalize hPT : partsT ps t = PT at *
     replace hPT:=hide hPT
     go_wp2_with fail
     have q1:=x1.c1
     have q2:=x1.c2
     go_region_with (first | (go_at_call 100; with_reducible refine (sign6_n).mono ?_; rintro e w2 ⟨rfl,hg2⟩; have q3:=(TB.below x1 (show Below w1.heap.size w1 w2 by (with_reducible repeat' first | exact Below.refl _ _ | assumption | refine grow_step (by assumption) ?_ | refine grow_drew ?_ | refine grow_alloc ?_ _ | refine grow_drewN ?_ _))).c1; have q4:=(TB.below x1 (show Below w1.heap.size w1 w2 by (with_reducible repeat' first | exact Below.refl _ _ | assumption | refine grow_step (by assumption) ?_ | refine grow_drew ?_ | refine grow_alloc ?_ _ | refine grow_drewN ?_ _))).c2) | (go_at_call 87; with_reducible refine (abs_n (Zn.zm (Zn.below hk1 (by (with_reducible repeat' first | exact Below.refl _ _ | assumption | refine grow_step (by assumption) ?_ | refine grow_drew ?_ | refine grow_alloc ?_ _ | refine grow_drewN ?_ _)))) (by omega)).mono ?_; rintro e w3 ⟨s3,a3,l3,c3,rfl,hz3,hg3,hl3⟩) | (go_at_call 48; with_reducible refine (ztext_n (Zn.zm (Zn.below hz3 (by (with_reducible repeat' first | exact Below.refl _ _ | assumption | refine grow_step (by assumption) ?_ | refine grow_drew ?_ | refine grow_alloc ?_ _ | refine grow_drewN ?_ _)))) (by omega) (Tab.below ht1 (by (with_reducible repeat' first | exact Below.refl _ _ | assumption | refine grow_step (by assumption) ?_ | refine grow_drew ?_ | refine grow_alloc ?_ _ | refine grow_drewN ?_ _)))).mono ?_; rintro e w4 ⟨rfl,hg4⟩; rw [hzt.out]) | (go_at_call 99; refine (write_k r r _ _ _ (isF_below hbu1 (by (with_reducible repeat' first | exact Below.refl _ _ | assumption | refine grow_step (by assumption) ?_ | refine grow_drew ?_ | refine grow_alloc ?_ _ | refine grow_drewN ?_ _))) (by rw [Lib.byteCells_length]; simp only [ByteArray.size_append]; have:=hlb.out; simp [ByteArray.size]; omega) (Nat.le_trans hrle (Below.size (show Below w1.heap.size w1 _ by (with_reducible repeat' first | exact Below.refl _ _ | assumption | refine grow_step (by assumption) ?_ | refine grow_drew ?_ | refine grow_alloc ?_ _ | refine grow_drewN ?_ _))))).mono ?_; rintro e w5 ⟨rfl,hbu5,hW, -⟩))
     all_goals
      rw [ba_cons,strCells_list,byteCells_append,hres.out] at hbu5
      have kw5 : Below r w1 w5:=Below.trans (Below.mono (show Below w1.heap.size w1 w4 by (with_reducible repeat' first | exact Below.refl _ _ | assumption | refine grow_step (by assumption) ?_ | refine grow_drew ?_ | refine grow_alloc ?_ _ | refine grow_drewN ?_ _)) hrle) hW
      have hs5 : r≤w5.heap.size:=Nat.le_trans hrle kw5.size
      have kr5:=hide (kr1.out.trans kw5)
      clear kw5 hW hg2 hg3 hg4 hbu1 kr1
      go_wp2_with fail
      refine (string_k _ _ _ w5 (.inr hbu5) hs5).mono ?_
      rintro e w6 ⟨rfl,k6⟩
      have kf : Hid (Below w.heap.size w w6):=(b0.out.trans ((kr5.out.trans k6).mono (by have:=hp.out; omega)))
      clear k6
      go_wp2
      go_ret
      exact ⟨by simp,kf.out⟩
    | false =>
     have hres : Hid (partsT ps t ++ 43 :: Lib.decDigits k.natAbs = termT ps k):=(show _ = _ by rw [htt.out]; unfold constT; rw [if_neg hk00,if_neg (of_decide_eq_false hs.symm)])
     clear htt hs
     generalize Lib.decDigits k.natAbs = D at *
     generalize hPT : partsT ps t = PT at *
     replace hPT:=hide hPT
     go_wp2_with fail
     have q1:=x1.c1
     have q2:=x1.c2
     go_region_with (first | (go_at_call 100; with_reducible refine (sign6_n).mono ?_; rintro e w2 ⟨rfl,hg2⟩; have q3:=(TB.below x1 (show Below w1.heap.size w1 w2 by (with_reducible repeat' first | exact Below.refl _ _ | assumption | refine grow_step (by assumption) ?_ | refine grow_drew ?_ | refine grow_alloc ?_ _ | refine grow_drewN ?_ _))).c1; have q4:=(TB.below x1 (show Below w1.heap.size w1 w2 by (with_reducible repeat' first | exact Below.refl _ _ | assumption | refine grow_step (by assumption) ?_ | refine grow_drew ?_ | refine grow_alloc ?_ _ | refine grow_drewN ?_ _))).c2) | (go_at_call 87; with_reducible refine (abs_n (Zn.zm (Zn.below hk1 (by (with_reducible repeat' first | exact Below.refl _ _ | assumption | refine grow_step (by assumption) ?_ | refine grow_drew ?_ | refine grow_alloc ?_ _ | refine grow_drewN ?_ _)))) (by omega)).mono ?_; rintro e w3 ⟨s3,a3,l3,c3,rfl,hz3,hg3,hl3⟩) | (go_at_call 48; with_reducible refine (ztext_n (Zn.zm (Zn.below hz3 (by (with_reducible repeat' first | exact Below.refl _ _ | assumption | refine grow_step (by assumption) ?_ | refine grow_drew ?_ | refine grow_alloc ?_ _ | refine grow_drewN ?_ _)))) (by omega) (Tab.below ht1 (by (with_reducible repeat' first | exact Below.refl _ _ | assumption | refine grow_step (by assumption) ?_ | refine grow_drew ?_ | refine grow_alloc ?_ _ | refine grow_drewN ?_ _)))).mono ?_; rintro e w4 ⟨rfl,hg4⟩; rw [hzt.out]) | (go_at_call 99; refine (write_k r r _ _ _ (isF_below hbu1 (by (with_reducible repeat' first | exact Below.refl _ _ | assumption | refine grow_step (by assumption) ?_ | refine grow_drew ?_ | refine grow_alloc ?_ _ | refine grow_drewN ?_ _))) (by rw [Lib.byteCells_length]; simp only [ByteArray.size_append]; have:=hlb.out; simp [ByteArray.size]; omega) (Nat.le_trans hrle (Below.size (show Below w1.heap.size w1 _ by (with_reducible repeat' first | exact Below.refl _ _ | assumption | refine grow_step (by assumption) ?_ | refine grow_drew ?_ | refine grow_alloc ?_ _ | refine grow_drewN ?_ _))))).mono ?_; rintro e w5 ⟨rfl,hbu5,hW, -⟩))
     all_goals
      rw [ba_cons,strCells_list,byteCells_append,hres.out] at hbu5
      have kw5 : Below r w1 w5:=Below.trans (Below.mono (show Below w1.heap.size w1 w4 by (with_reducible repeat' first | exact Below.refl _ _ | assumption | refine grow_step (by assumption) ?_ | refine grow_drew ?_ | refine grow_alloc ?_ _ | refine grow_drewN ?_ _)) hrle) hW
      have hs5 : r≤w5.heap.size:=Nat.le_trans hrle kw5.size
      have kr5:=hide (kr1.out.trans kw5)
      clear kw5 hW hg2 hg3 hg4 hbu1 kr1
      go_wp2_with fail
      refine (string_k _ _ _ w5 (.inr hbu5) hs5).mono ?_
      rintro e w6 ⟨rfl,k6⟩
      have kf : Hid (Below w.heap.size w w6):=(b0.out.trans ((kr5.out.trans k6).mono (by have:=hp.out; omega)))
      clear k6
      go_wp2
      go_ret
      exact ⟨by simp,kf.out⟩
end Go.Proofs.YtepdckgfolkjjaaGreatDoor

namespace Go.Proofs.YtepdckgfolkjjaaGreatDoor
open Go.RowKit Go.Sort Go.Shelf
open Tm At

def atomB (f : Atm ⊕ Int) : ByteArray:=match f with
 | .inr _ => ⟨#[]⟩
 | .inl a => if a.kind = 0 then ⟨#[102,97,108,115,101]⟩ else if a.kind = 1 then ⟨#[116,114,117,101]⟩ else if a.kind = 2 then ⟨#[48,60]⟩ ++ ⟨(termT a.ps a.k).toArray⟩
  else zText a.d ++ (if a.kind = 3 then ⟨#[124]⟩ else ⟨#[33]⟩) ++ ⟨(termT a.ps a.k).toArray⟩

theorem partsT_len {w : World} {ap : Option Addr} {n : Nat} {ps : List (Int × Int)} {B : Nat} (hP : Pn w ap n ps B) (t : Nat) (ht : t≤n) : (partsT ps t).length≤t * (10 * (B + 1) + 22):=by
 induction t with
 | zero => exact Nat.zero_le _
 | succ t ih =>
  have h1:=ih (by omega)
  obtain ⟨hl,h0 | ⟨b,off, -, -,h2⟩⟩:=hP
  ·omega
  obtain ⟨s,a,l,c, -, -, -,hz,hlB,hv⟩:=h2 t (by omega)
  have h3 : ps.getD t (0,0) = ps[t]:=by rw [List.getD_eq_getElem?_getD,List.getElem?_eq_getElem (by omega)]; rfl
  have h4:=hz.dec
  have h5:=partT_len (first:=t == 0) (p:=ps[t]) (l:=10 * (B + 1)) hv (by omega)
  show (partsT ps t ++ partT (t == 0) (ps.getD t (0,0))).length≤_
  rw [h3,List.length_append,Nat.add_mul,Nat.one_mul]
  omega
theorem termT_len {w : World} {ap : Option Addr} {n : Nat} {ps : List (Int × Int)} {B : Nat} {s : Bool} {a : Option Addr} {l c : Nat} {k : Int} (hP : Pn w ap n ps B) (hk : Zn w s a l c k) (hn : n≤262144) (hl : l≤B) (hB : B≤4194304) : (termT ps k).length≤10995200000000:=by
 have h1:=partsT_len hP n (Nat.le_refl _)
 have h2:=hk.dec
 have h3 : n * (10 * (B + 1) + 22)≤262144 * 41943072:=Nat.mul_le_mul hn (by omega)
 have h4 : (constT k).length≤41943051:=by
  unfold constT
  split
  ·simp
  ·simp; omega
 unfold termT
 rw [List.length_append,hP.1]
 omega
theorem zText_size {w : World} {s : Bool} {a : Option Addr} {l c : Nat} {z : Int} (h : Zn w s a l c z) (hl : l≤4194304) : (zText z).size≤41943051:=by
 have h2:=h.dec
 unfold zText
 split
 ·rw [ba_cons,size_list]
  have h3 : (-z).toNat = z.natAbs:=by omega
  rw [h3]; simp; omega
 ·rw [size_list]
  have h3 : z.toNat = z.natAbs:=by omega
  rw [h3]; omega

set_option maxRecDepth 100000 in
set_option maxHeartbeats 6400000 in
theorem atext_n {w : World} {kd : Int} {sd : Bool} {ad : Option Addr} {ld cd : Nat} {ap : Option Addr} {np cp : Nat} {sk : Bool} {ak : Option Addr} {lk ck : Nat} {d k : Int} {ps : List (Int × Int)} {B : Nat}
  (hd : Zm w sd ad ld cd d) (hld : ld≤B) (hP : Pr w ap np ps B) (hk : Zm w sk ak lk ck k) (hlk : lk≤B) (hn : np≤262144) (hB : B + np + 1≤4194000) (htab : Tab w) :
  Calls Tryz.prog 17 #[.agg #[.int .i64 kd,.bool sd,.slice ad ld cd,.slice ap np cp,.bool sk,.slice ak lk ck]] w fun e w' => ∃ qs,Std qs∧(∀ v,csum qs v = csum ps v)∧e = .returned (.string (atomB (formA kd d qs k)))∧Below w.heap.size w w':=by
 go_enter Tryz.func17,Tryz.ntmps17
 go_wp2_with fail
 have x:=AB.new w kd sd ad ld cd ap np cp sk ak lk ck
 have b0:=below_alloc w (.cells #[.int .i64 kd,.bool sd,.slice ad ld cd,.slice ap np cp,.bool sk,.slice ak lk ck] 29)
 replace hd:=hd.below b0
 replace hP:=hP.below b0
 replace hk:=hk.below b0
 have htab0:=hide htab
 clear htab
 generalize w.alloc (.cells #[.int .i64 kd,.bool sd,.slice ad ld cd,.slice ap np cp,.bool sk,.slice ak lk ck] 29) = wb at *
 generalize hp : w.heap.size = p at *
 replace b0 : Hid (Below w.heap.size w wb):=hp ▸ b0
 replace hp:=hide hp
 have hnps:=hP.1
 refine (anorm_n hd hld hP hk hlk hn hB).mono ?_
 rintro e w1 ⟨qs,hS,hc,hA,k1⟩
 have hpb:=x.lt
 replace x:=x.below k1
 have kk:=hide (grow_step k1 b0.out)
 clear hd hP hk
 have e0:=x.c0
 have e1:=x.c1
 have e2:=x.c2
 have e3:=x.c3
 have e4:=x.c4
 have e5:=x.c5
 have f0:=x.f 0
 have f1:=x.f 1
 have f2:=x.f 2
 have f3:=x.f 3
 have f4:=x.f 4
 have f5:=x.f 5
 have hpl:=x.lt
 cases hf : formA kd d qs k with
 | inr er =>
  rw [hf] at hA
  have her:=formA_er hf
  have he : _ = _:=hA
  subst he
  have g6:=ab_set w1 p (.int .i64 0) (.bool false) (.slice none 0 0) (.slice none 0 0) (.bool false) (.slice none 0 0)
  have kf:=hide (below_grown kk.out g6 (by have:=hp.out; omega))
  have hres : Hid (∃ qs,Std qs∧(∀ v,csum qs v = csum ps v)∧⟨#[]⟩ = atomB (formA kd d qs k)):=⟨qs,hS,hc,by rw [hf]; rfl⟩
  clear hf hS hc hA g6 k1 kk
  rcases her with rfl | rfl
  ·go_wp2
   go_ret
   obtain ⟨q,h1,h2,h3⟩:=hres.out
   exact ⟨q,h1,h2,by rw [← h3]; rfl,kf.out⟩
  ·go_wp2
   go_ret
   obtain ⟨q,h1,h2,h3⟩:=hres.out
   exact ⟨q,h1,h2,by rw [← h3]; rfl,kf.out⟩
 | inl f =>
  rw [hf] at hA
  have hfit:=formA_fit hS hf
  have hlen : f.ps.length≤np:=by have h1:=(formA_prt hS hf).1; have h2:=std_len hS hc; omega
  have h5:=hfit.kind5
  obtain ⟨fk,fd,fps,fkk⟩:=f
  obtain ⟨sd1,ad1,ld1,cd1,ap1,np1,cp1,sk1,ak1,lk1,ck1,rfl,hz1,hlz1,hPn1,hnp1,hk1,hlk1,hnew1⟩:=hA
  dsimp only at hz1 hPn1 hk1 hlen h5
  have hnp2 : np1≤262144:=by have:=hPn1.1; omega
  have g6:=ab_set w1 p (.int .i64 fk) (.bool sd1) (.slice ad1 ld1 cd1) (.slice ap1 np1 cp1) (.bool sk1) (.slice ak1 lk1 ck1)
  have hU:=ab_noU x
  have hz2:=hz1.grownU g6 hU
  have hk2:=hk1.grownU g6 hU
  have hP2:=hPn1.away (fun b off e => by have h1:=hnew1 b off e; omega) g6 hU
  have x2 : AB _ p fk sd1 ad1 ld1 cd1 ap1 np1 cp1 sk1 ak1 lk1 ck1:=ab_fin x fk sd1 ad1 ld1 cd1 ap1 np1 cp1 sk1 ak1 lk1 ck1
  have kw2:=hide (below_grown kk.out g6 (by have:=hp.out; omega))
  have ht2 : Tab _:=htab0.out.below kw2.out
  have HH:=hide (And.intro hz2 (And.intro hk2 (And.intro hP2 (And.intro x2 ht2))))
  have hres : Hid (∀ s,s = atomB (.inl ⟨fk,fd,fps,fkk⟩)→∃ qs,Std qs∧(∀ v,csum qs v = csum ps v)∧s = atomB (formA kd d qs k)):=fun s he => ⟨qs,hS,hc,by rw [hf]; exact he⟩
  have hTl:=termT_len hPn1 hk1 hnp2 hlk1 (by omega)
  obtain ⟨Zl,hzt,hZl⟩ : ∃ Zl : List UInt8,Hid (zText fd = ⟨Zl.toArray⟩)∧Zl.length≤41943051:=⟨(zText fd).data.toList,(show _ = _ by simp),(show _≤_ from zText_size hz1 (by omega))⟩
  obtain ⟨TT,hTT⟩ : ∃ TT : List UInt8,Hid (termT fps fkk = TT):=⟨_,(show _ = _ from rfl)⟩
  rw [hTT.out] at hTl
  clear hz1 hk1 hPn1 hnew1 hz2 hk2 hP2 x2 hU g6 hf hS hc k1 kk x ht2 hfit
  rcases h5 with rfl | rfl | rfl | rfl | rfl
  ·go_wp2
   go_ret
   obtain ⟨q,h1,h2,h3⟩:=hres.out _ rfl
   exact ⟨q,h1,h2,by rw [← h3]; simp [atomB],kw2.out⟩
  ·go_wp2
   go_ret
   obtain ⟨q,h1,h2,h3⟩:=hres.out _ rfl
   exact ⟨q,h1,h2,by rw [← h3]; simp [atomB],kw2.out⟩
  ·go_wp2_with fail
   obtain ⟨hz2,hk2,hP2,x2,ht2⟩:=HH.out
   clear HH e0 e1 e2 e3 e4 e5 f0 f1 f2 f3 f4 f5
   generalize (((((w1.setCell ⟨p,0,none⟩ (.int .i64 2)).setCell ⟨p,1,none⟩ (.bool sd1)).setCell ⟨p,2,none⟩ (.slice ad1 ld1 cd1)).setCell ⟨p,3,none⟩ (.slice ap1 np1 cp1)).setCell ⟨p,4,none⟩ (.bool sk1)).setCell ⟨p,5,none⟩ (.slice ak1 lk1 ck1) = w2 at *
   refine (termText_n hP2 (by omega) hk2 hlk1 (by omega) ht2).mono ?_
   rintro e w5 ⟨rfl,k5⟩
   rw [hTT.out]
   have kf:=hide (kw2.out.trans (k5.mono kw2.out.size))
   clear k5
   go_wp2
   go_ret
   obtain ⟨q,h1,h2,h3⟩:=hres.out _ rfl
   exact ⟨q,h1,h2,by rw [← h3]; simp [atomB,hTT.out],kf.out⟩
  ·go_wp2_with fail
   obtain ⟨hz2,hk2,hP2,x2,ht2⟩:=HH.out
   clear HH e0 e1 e2 e3 e4 e5 f0 f1 f2 f3 f4 f5
   generalize (((((w1.setCell ⟨p,0,none⟩ (.int .i64 3)).setCell ⟨p,1,none⟩ (.bool sd1)).setCell ⟨p,2,none⟩ (.slice ad1 ld1 cd1)).setCell ⟨p,3,none⟩ (.slice ap1 np1 cp1)).setCell ⟨p,4,none⟩ (.bool sk1)).setCell ⟨p,5,none⟩ (.slice ak1 lk1 ck1) = w2 at *
   have q1:=x2.c1
   have q2:=x2.c2
   have q3:=x2.c3
   have q4:=x2.c4
   have q5:=x2.c5
   go_region_with (first | (go_at_call 48; with_reducible refine Calls.mono (ztext_n (Zn.zm (Zn.below hz2 (by (with_reducible repeat' first | exact Below.refl _ _ | assumption | refine grow_step (by assumption) ?_ | refine grow_drew ?_ | refine grow_alloc ?_ _ | refine grow_drewN ?_ _)))) (by omega) (Tab.below ht2 (by (with_reducible repeat' first | exact Below.refl _ _ | assumption | refine grow_step (by assumption) ?_ | refine grow_drew ?_ | refine grow_alloc ?_ _ | refine grow_drewN ?_ _)))) ?_; rintro e w4 ⟨rfl,hg4⟩; rw [hzt.out]; obtain ⟨m1,m2,m3,m4,m5, -⟩:=aq6 x2 (show Below w2.heap.size w2 w4 by (with_reducible repeat' first | exact Below.refl _ _ | assumption | refine grow_step (by assumption) ?_ | refine grow_drew ?_ | refine grow_alloc ?_ _ | refine grow_drewN ?_ _))) | (go_at_call 47; with_reducible refine Calls.mono (termText_n (Pn.below hP2 (by (with_reducible repeat' first | exact Below.refl _ _ | assumption | refine grow_step (by assumption) ?_ | refine grow_drew ?_ | refine grow_alloc ?_ _ | refine grow_drewN ?_ _))) (by omega) (Zn.below hk2 (by (with_reducible repeat' first | exact Below.refl _ _ | assumption | refine grow_step (by assumption) ?_ | refine grow_drew ?_ | refine grow_alloc ?_ _ | refine grow_drewN ?_ _))) hlk1 (by omega) (Tab.below ht2 (by (with_reducible repeat' first | exact Below.refl _ _ | assumption | refine grow_step (by assumption) ?_ | refine grow_drew ?_ | refine grow_alloc ?_ _ | refine grow_drewN ?_ _)))) ?_; rintro e w5 ⟨rfl,hg5⟩; rw [hTT.out]; obtain ⟨r1,r2,r3,r4,r5, -⟩:=aq6 x2 (show Below w2.heap.size w2 w5 by (with_reducible repeat' first | exact Below.refl _ _ | assumption | refine grow_step (by assumption) ?_ | refine grow_drew ?_ | refine grow_alloc ?_ _ | refine grow_drewN ?_ _))))
   all_goals
    go_wp2
    go_ret
    obtain ⟨q,h1,h2,h3⟩:=hres.out _ rfl
    exact ⟨q,h1,h2,by rw [← h3]; refine congrArg _ (congrArg _ (ByteArray.ext ?_)); simp [atomB,ByteArray.data_append,hzt.out,hTT.out],kw2.out.trans (Below.mono (show Below w2.heap.size w2 _ by (with_reducible repeat' first | exact Below.refl _ _ | assumption | refine grow_step (by assumption) ?_ | refine grow_drew ?_ | refine grow_alloc ?_ _ | refine grow_drewN ?_ _)) kw2.out.size)⟩
  ·go_wp2_with fail
   obtain ⟨hz2,hk2,hP2,x2,ht2⟩:=HH.out
   clear HH e0 e1 e2 e3 e4 e5 f0 f1 f2 f3 f4 f5
   generalize (((((w1.setCell ⟨p,0,none⟩ (.int .i64 4)).setCell ⟨p,1,none⟩ (.bool sd1)).setCell ⟨p,2,none⟩ (.slice ad1 ld1 cd1)).setCell ⟨p,3,none⟩ (.slice ap1 np1 cp1)).setCell ⟨p,4,none⟩ (.bool sk1)).setCell ⟨p,5,none⟩ (.slice ak1 lk1 ck1) = w2 at *
   have q1:=x2.c1
   have q2:=x2.c2
   have q3:=x2.c3
   have q4:=x2.c4
   have q5:=x2.c5
   go_region_with (first | (go_at_call 48; with_reducible refine Calls.mono (ztext_n (Zn.zm (Zn.below hz2 (by (with_reducible repeat' first | exact Below.refl _ _ | assumption | refine grow_step (by assumption) ?_ | refine grow_drew ?_ | refine grow_alloc ?_ _ | refine grow_drewN ?_ _)))) (by omega) (Tab.below ht2 (by (with_reducible repeat' first | exact Below.refl _ _ | assumption | refine grow_step (by assumption) ?_ | refine grow_drew ?_ | refine grow_alloc ?_ _ | refine grow_drewN ?_ _)))) ?_; rintro e w4 ⟨rfl,hg4⟩; rw [hzt.out]; obtain ⟨m1,m2,m3,m4,m5, -⟩:=aq6 x2 (show Below w2.heap.size w2 w4 by (with_reducible repeat' first | exact Below.refl _ _ | assumption | refine grow_step (by assumption) ?_ | refine grow_drew ?_ | refine grow_alloc ?_ _ | refine grow_drewN ?_ _))) | (go_at_call 47; with_reducible refine Calls.mono (termText_n (Pn.below hP2 (by (with_reducible repeat' first | exact Below.refl _ _ | assumption | refine grow_step (by assumption) ?_ | refine grow_drew ?_ | refine grow_alloc ?_ _ | refine grow_drewN ?_ _))) (by omega) (Zn.below hk2 (by (with_reducible repeat' first | exact Below.refl _ _ | assumption | refine grow_step (by assumption) ?_ | refine grow_drew ?_ | refine grow_alloc ?_ _ | refine grow_drewN ?_ _))) hlk1 (by omega) (Tab.below ht2 (by (with_reducible repeat' first | exact Below.refl _ _ | assumption | refine grow_step (by assumption) ?_ | refine grow_drew ?_ | refine grow_alloc ?_ _ | refine grow_drewN ?_ _)))) ?_; rintro e w5 ⟨rfl,hg5⟩; rw [hTT.out]; obtain ⟨r1,r2,r3,r4,r5, -⟩:=aq6 x2 (show Below w2.heap.size w2 w5 by (with_reducible repeat' first | exact Below.refl _ _ | assumption | refine grow_step (by assumption) ?_ | refine grow_drew ?_ | refine grow_alloc ?_ _ | refine grow_drewN ?_ _))))
   all_goals
    go_wp2
    go_ret
    obtain ⟨q,h1,h2,h3⟩:=hres.out _ rfl
    exact ⟨q,h1,h2,by rw [← h3]; refine congrArg _ (congrArg _ (ByteArray.ext ?_)); simp [atomB,ByteArray.data_append,hzt.out,hTT.out],kw2.out.trans (Below.mono (show Below w2.heap.size w2 _ by (with_reducible repeat' first | exact Below.refl _ _ | assumption | refine grow_step (by assumption) ?_ | refine grow_drew ?_ | refine grow_alloc ?_ _ | refine grow_drewN ?_ _)) kw2.out.size)⟩
end Go.Proofs.YtepdckgfolkjjaaGreatDoor
