/-
 Several texts in one: Rd,Num,Pd0,Pd1,Cr0.
-/
import Derived.WalkKit
import Derived.Deep.Draws
namespace Go.Proofs.YtaafoppaepcaeaaGreat
open Go.RowKit

variable {zs xs:List Int}{i len cap b:Nat}{w w':World}{ad:Option Addr}
theorem hide {p:Prop}(h:p):Hid p:=h
theorem unhide {p:Prop}(h:Hid p):p:=h

def lz (zs:List Int)(i:Nat):Int:=zs.getD i 0

def Limbs (zs:List Int):Prop:=∀z∈zs,0≤z∧z<4294967296

theorem lz_bd (h:Limbs zs)(i:Nat):0≤lz zs i∧lz zs i<4294967296:=by
 unfold lz
 by_cases hi:i<zs.length
 ·have e:zs.getD i 0=zs[i]:=by simp[List.getD,hi]
  rw[e];exact h _ (List.getElem_mem hi)
 have e:zs.getD i 0=0:=by simp[List.getD,List.getElem?_eq_none (Nat.le_of_not_lt hi)]
 rw[e];decide

theorem lz_out (h:zs.length≤i):lz zs i=0:=by
 unfold lz;simp[List.getD,List.getElem?_eq_none h]

theorem lz_take (zs:List Int)(n i:Nat):lz (zs.take n) i=if i<n then lz zs i else 0:=by
 unfold lz
 simp only[List.getD_eq_getElem?_getD,List.getElem?_take]
 split <;> simp

theorem lz_set (zs:List Int)(i j:Nat)(x:Int)(hi:i<zs.length):lz (zs.set i x) j=if j=i then x else lz zs j:=by
 unfold lz
 simp only[List.getD_eq_getElem?_getD,List.getElem?_set]
 by_cases h:i=j
 ·subst h;simp[hi]
 simp[h,Ne.symm h]

theorem Limbs.take (h:Limbs zs)(n:Nat):Limbs (zs.take n):=fun z hz=>h z (List.mem_of_mem_take hz)

theorem Limbs.set (h:Limbs zs)(i:Nat){x:Int}(h0:0≤x)(h1:x<4294967296):Limbs (zs.set i x):=fun z hz=>by
 rcases List.mem_or_eq_of_mem_set hz with h2|h2
 ·exact h z h2
 subst h2;exact⟨h0,h1⟩

theorem Limbs.replicate (n:Nat):Limbs (List.replicate n 0):=fun z hz=>by
 rw[List.eq_of_mem_replicate hz];decide

def Rd (w:World)(ad:Option Addr)(len cap:Nat)(zs:List Int):Prop:=
 zs.length=len∧len≤cap∧cap≤9223372036854775807∧Limbs zs∧((ad=none∧len=0∧cap=0)∨(∃a,ad=some a∧(len=0∨ ∃b off,a=⟨b,off,none⟩∧b<w.heap.size∧∀i,i<len→w.cell? ⟨b,off+i,none⟩=some (.int .u32 (lz zs i)))))

def tl (zs:List Int):Nat→Nat
 |0=>0
 |n+1=>if lz zs n=0 then tl zs n else n+1

theorem tl_le (zs:List Int)(n:Nat):tl zs n≤n:=by
 induction n with
 |zero=>simp[tl]
 |succ n ih=>unfold tl;split <;> omega

theorem tl_last {n:Nat}(h:0<tl zs n):lz zs (tl zs n-1)≠0:=by
 induction n with
 |zero=>simp[tl]at h
 |succ n ih=>
  unfold tl at h ⊢
  split
  ·rename_i h0;rw[if_pos h0]at h;exact ih h
  rename_i h0;simpa using h0

def trim (zs:List Int):List Int:=zs.take (tl zs zs.length)

theorem Rd.take (h:Rd w ad len cap zs){n:Nat}(hn:n≤len):Rd w ad n cap (zs.take n):=by
 obtain⟨h1,h2,h3,h4,h5⟩:=h
 refine⟨by rw[List.length_take];omega,by omega,h3,h4.take n,?_⟩
 rcases h5 with⟨ha,hl,hc⟩|⟨a,ha,h5⟩
 ·exact .inl ⟨ha,by omega,hc⟩
 refine .inr ⟨a,ha,?_⟩
 by_cases hn0:n=0
 ·exact .inl hn0
 rcases h5 with h5|⟨b,off,rfl,hb,hc⟩
 ·omega
 refine .inr ⟨b,off,rfl,hb,fun i hi=> ?_⟩
 rw[lz_take,if_pos hi]
 exact hc i (by omega)

theorem Rd.trim (h:Rd w ad len cap zs):Rd w ad (tl zs len) cap (trim zs):=by
 have h1:=h.1
 unfold Go.Proofs.YtaafoppaepcaeaaGreat.trim
 rw[h1]
 exact h.take (tl_le _ _)

theorem Rd.below (h:Rd w ad len cap zs)(hb:Below w.heap.size w w'):Rd w' ad len cap zs:=by
 obtain⟨h1,h2,h3,h4,h5⟩:=h
 refine⟨h1,h2,h3,h4,?_⟩
 rcases h5 with h5|⟨a,ha,h5⟩
 ·exact .inl h5
 refine .inr ⟨a,ha,?_⟩
 rcases h5 with h5|⟨b,off,rfl,hlt,hc⟩
 ·exact .inl h5
 exact .inr ⟨b,off,rfl,Nat.lt_of_lt_of_le hlt hb.size,fun i hi=>(hb.cell (p:=⟨b,off+i,none⟩) hlt).trans (hc i hi)⟩

def U (xs:List Int):Array Value:=(xs.map (Value.int .u32)).toArray

theorem U_size (xs:List Int):(U xs).size=xs.length:=by simp[U]

theorem U_get (h:i<xs.length):(U xs)[i]? =some (.int .u32 (lz xs i)):=by
 simp[U,lz,h]

theorem U_set (x:Int):(U xs).setIfInBounds i (.int .u32 x)=U (xs.set i x):=by
 apply Array.ext'
 simp[U,List.map_set]

def Row (w:World)(b:Nat)(xs:List Int):Prop:=w.heap[b]? =some (.cells (U xs) 60 (0,0))

theorem Row.cell (h:Row w b xs){i:Nat}(hi:i<xs.length):w.cell? ⟨b,i,none⟩=some (.int .u32 (lz xs i)):=by
 rw[cell_of_row w b i (U xs) 60 (0,0) h];exact U_get hi

theorem Row.frozen (h:Row w b xs)(i:Nat):w.frozen? ⟨b,i,none⟩=false:=
 frozen_of_row w b i (U xs) 60 h

theorem Row.lt (h:Row w b xs):b<w.heap.size:=by
 by_cases hb:b<w.heap.size
 ·exact hb
 rw[Row,Array.getElem?_eq_none (by omega)]at h;cases h

theorem Row.set (h:Row w b xs)(i:Nat)(x:Int):Row (w.setCell ⟨b,i,none⟩ (.int .u32 x)) b (xs.set i x):=by
 have:=heap_setCell_same w b i (U xs) 60 (.int .u32 x) h
 rw[U_set]at this
 exact this

theorem Row.rd (h:Row w b xs)(hl:Limbs xs){off len cap:Nat}(hn:off+len≤xs.length)(hc:len≤cap)(hb:cap≤9223372036854775807):Rd w (some ⟨b,off,none⟩) len cap ((xs.drop off).take len):=by
 refine⟨by simp;omega,hc,hb,fun z hz=>hl z (List.mem_of_mem_drop (List.mem_of_mem_take hz)),.inr ⟨_,rfl,.inr ⟨b,off,rfl,h.lt,fun i hi=> ?_⟩⟩⟩
 rw[h.cell (by omega),lz_take,if_pos hi]
 simp[lz]

def blk :Option Addr→Option Nat
 |some a=>some a.block
 |none=>none

def Out (w w':World)(ad:Option Addr)(len cap:Nat)(zs:List Int):Prop:=
 Below w.heap.size w w'∧((ad=none∧len=0∧cap=0∧zs= [])∨ ∃b xs,ad=some ⟨b,0,none⟩∧w.heap.size≤b∧Row w' b xs∧Limbs xs∧xs.length=cap∧len≤cap∧cap≤9223372036854775807∧zs=xs.take len)

theorem Out.rd (h:Out w w' ad len cap zs):Rd w' ad len cap zs:=by
 obtain⟨_,⟨rfl,rfl,rfl,rfl⟩|⟨b,xs,rfl,hb,hr,hl,hn,hle,hm,rfl⟩⟩:=h
 ·exact⟨rfl,Nat.le_refl _,by decide,fun _ h=>(by cases h),.inl ⟨rfl,rfl,rfl⟩⟩
 have:=hr.rd hl (off:=0) (len:=len) (cap:=cap) (by omega) hle hm
 simpa using this

theorem out_row (hb:Below w.heap.size w w')(hr:Row w' w.heap.size xs)(hl:Limbs xs)(hn:xs.length=cap)(hle:len≤cap)(hm:cap≤9223372036854775807):
  Out w w' (some ⟨w.heap.size,0,none⟩) len cap (xs.take len):=
 ⟨hb,.inr ⟨_,xs,rfl,Nat.le_refl _,hr,hl,hn,hle,hm,rfl⟩⟩

theorem Out.keep {w0:World}(h:Out w0 w ad len cap zs)(hb:Below w0.heap.size w0 w')(hk: ∀b,blk ad=some b→w'.heap[b]? =w.heap[b]?):Out w0 w' ad len cap zs:=by
 obtain⟨h1,h2⟩:=h
 refine⟨hb,?_⟩
 rcases h2 with h2|⟨b,xs,rfl,h4,h5,h6⟩
 ·exact .inl h2
 exact .inr ⟨b,xs,rfl,h4,(hk b rfl).trans h5,h6⟩

theorem Out.lt {w0:World}(h:Out w0 w ad len cap zs){b:Nat}(hb:blk ad=some b):w0.heap.size≤b∧b<w.heap.size:=by
 obtain⟨h1,⟨rfl,_⟩|⟨b',xs,rfl,h4,h5,h6⟩⟩:=h
 ·cases hb
 cases hb;exact⟨h4,h5.lt⟩

structure Only (b:Nat) (w w':World):Prop where
 os:w'.os=w.os
 tape:w'.tape=w.tape
 output:w'.output=w.output
 size:w'.heap.size=w.heap.size
 block: ∀k,k≠b→w'.heap[k]? =w.heap[k]?

theorem Only.refl (b:Nat)(w:World):Only b w w:=⟨rfl,rfl,rfl,rfl,fun _ _=>rfl⟩
theorem Only.trans {w1 w2 w3:World}(h:Only b w1 w2)(k:Only b w2 w3):Only b w1 w3:=
 ⟨k.os.trans h.os,k.tape.trans h.tape,k.output.trans h.output,k.size.trans h.size,fun i hi=>(k.block i hi).trans (h.block i hi)⟩
theorem Only.set (b i:Nat)(w:World)(v:Value):Only b w (w.setCell ⟨b,i,none⟩ v):=
 ⟨rfl,rfl,rfl,by simp[World.setCell],fun k hk=>Below.heap_setCell _ _ _ _ hk⟩
theorem Only.drew (b:Nat)(w:World):Only b w w.drew:=⟨rfl,rfl,rfl,rfl,fun _ _=>rfl⟩
theorem Only.below {B:Nat}(h:Only b w w')(hB:B≤b):Below B w w':=
 ⟨h.os,h.tape,h.output,Nat.le_of_eq h.size.symm,fun k hk=>h.block k (by omega)⟩

theorem Rd.only (h:Rd w ad len cap zs)(ho:Only b w w')(hb: ∀x off,ad=some ⟨x,off,none⟩→len=0∨x≠b):Rd w' ad len cap zs:=by
 obtain⟨h1,h2,h3,h4,h5⟩:=h
 refine⟨h1,h2,h3,h4,?_⟩
 rcases h5 with h5|⟨a,ha,h5⟩
 ·exact .inl h5
 refine .inr ⟨a,ha,?_⟩
 rcases h5 with h5|⟨x,off,rfl,hlt,hc⟩
 ·exact .inl h5
 rcases hb x off ha with h0|h0
 ·exact .inl h0
 exact .inr ⟨x,off,rfl,by rw[ho.size];exact hlt,fun i hi=>(World.cell?_of_block (w:=w) (ho.block x h0)).trans (hc i hi)⟩

end Go.Proofs.YtaafoppaepcaeaaGreat

namespace Go.Proofs.YtaafoppaepcaeaaGreat

variable {zs xs ys:List Int}{n m:Nat}{cr:Int}
def pw :Nat→Int
  |0=>1
  |n+1=>4294967296*pw n

theorem pw_pos (n:Nat):0<pw n:=by
  induction n with
  |zero=>decide
  |succ n ih=>unfold pw;omega

theorem pw_succ (n:Nat):pw (n+1)=4294967296*pw n:=rfl

theorem pw_add (m n:Nat):pw (m+n)=pw m*pw n:=by
  induction n with
  |zero=>simp[pw]
  |succ n ih=>rw[Nat.add_succ,pw_succ,pw_succ,ih,Int.mul_left_comm]

def vl (zs:List Int):Nat→Int
  |0=>0
  |n+1=>vl zs n+lz zs n*pw n

theorem vl_succ (zs:List Int)(n:Nat):vl zs (n+1)=vl zs n+lz zs n*pw n:=rfl

def val (zs:List Int):Int:=vl zs zs.length

theorem vl_bd (h:Limbs zs)(n:Nat):0≤vl zs n∧vl zs n<pw n:=by
  induction n with
  |zero=>simp[vl,pw]
  |succ n ih=>
    have hb:=lz_bd h n
    have hp:=pw_pos n
    rw[vl_succ,pw_succ]
    have h1:0≤lz zs n*pw n:=Int.mul_nonneg hb.1 (by omega)
    have h2:lz zs n*pw n≤4294967295*pw n:=Int.mul_le_mul_of_nonneg_right (by omega) (by omega)
    omega

theorem vl_past (zs:List Int)(k:Nat):vl zs (zs.length+k)=val zs:=by
  induction k with
  |zero=>rfl
  |succ k ih=>rw[Nat.add_succ,vl_succ,ih,lz_out (by omega)];simp

theorem vl_ge (h:zs.length≤n):vl zs n=val zs:=by
  obtain⟨k,rfl⟩:=Nat.exists_eq_add_of_le h
  exact vl_past zs k

theorem vl_congr (h: ∀i,i<n→lz xs i=lz ys i):vl xs n=vl ys n:=by
  induction n with
  |zero=>rfl
  |succ n ih=>rw[vl_succ,vl_succ,ih (fun i hi=>h i (by omega)),h n (by omega)]

theorem vl_tl (zs:List Int)(n:Nat):vl zs (tl zs n)=vl zs n:=by
  induction n with
  |zero=>rfl
  |succ n ih=>
    unfold tl
    split
    · rename_i h;rw[ih,vl_succ,h];simp
    rfl

theorem val_take (zs:List Int)(n:Nat)(hn:n≤zs.length):val (zs.take n)=vl zs n:=by
  unfold val
  have hl:(zs.take n).length=n:=by rw[List.length_take];omega
  rw[hl]
  exact vl_congr (fun i hi=>by rw[lz_take,if_pos hi])

theorem val_trim (zs:List Int):val (trim zs)=val zs:=by
  unfold trim
  rw[val_take _ _ (tl_le _ _),vl_tl]
  rfl

theorem val_nonneg (h:Limbs zs):0≤val zs:=(vl_bd h _).1

theorem vl_set_past (zs:List Int)(i n:Nat)(x:Int)(h:n≤i)(hi:i<zs.length):vl (zs.set i x) n=vl zs n:=
  vl_congr (fun j hj=>by rw[lz_set _ _ _ _ hi,if_neg (by omega)])

theorem lz_replicate (n i:Nat):lz (List.replicate n 0) i=0:=by
  unfold lz
  simp only[List.getD_eq_getElem?_getD,List.getElem?_replicate]
  split <;> rfl

theorem vl_replicate (n k:Nat):vl (List.replicate n 0) k=0:=by
  induction k with
  |zero=>rfl
  |succ k ih=>rw[vl_succ,ih,lz_replicate];simp

def Canon (zs:List Int):Prop:=Limbs zs∧(0<zs.length→lz zs (zs.length-1)≠0)

theorem trim_length (zs:List Int):(trim zs).length=tl zs zs.length:=by
  unfold trim;rw[List.length_take];have:=tl_le zs zs.length;omega

theorem canon_trim (h:Limbs zs):Canon (trim zs):=by
  refine⟨h.take _,fun hp=> ?_⟩
  rw[trim_length]at hp ⊢
  unfold trim
  rw[lz_take,if_pos (by omega)]
  exact tl_last hp

theorem canon_nil :Canon []:=⟨fun _ h=>(by cases h),fun h=>absurd h (by decide)⟩

theorem canon_low (h:Canon zs)(hp:0<zs.length):pw (zs.length-1)≤val zs:=by
  obtain⟨n,hn⟩: ∃n,zs.length=n+1:=⟨zs.length-1,by omega⟩
  have hl:=h.2 hp
  have hb:=lz_bd h.1 (zs.length-1)
  unfold val
  rw[hn]at hl hb ⊢
  simp only[Nat.add_sub_cancel]at hl hb ⊢
  rw[vl_succ]
  have h1:=(vl_bd h.1 n).1
  have h2:1*pw n≤lz zs n*pw n:=Int.mul_le_mul_of_nonneg_right (by omega) (Int.le_of_lt (pw_pos n))
  omega

theorem pw_mono (h:m≤n):pw m≤pw n:=by
  induction n with
  | zero => have : m = 0:=by omega
            subst this; exact Int.le_refl _
  |succ n ih=>
    by_cases e:m=n+1
    · subst e;exact Int.le_refl _
    have:=ih (by omega);have:=pw_pos n;rw[pw_succ];omega

theorem val_lt_of_length (hx:Limbs xs)(hy:Canon ys)(h:xs.length<ys.length):val xs<val ys:=by
  have h1:=(vl_bd hx xs.length).2
  have h2:=canon_low hy (by omega)
  have h3:pw xs.length≤pw (ys.length-1):=pw_mono (by omega)
  unfold val at*
  omega

theorem vl_lt_of_lz (hx:Limbs xs)(hy:Limbs ys){i n:Nat}(hi:i<n)(hs: ∀j,i<j→j<n→lz xs j=lz ys j)(h:lz xs i<lz ys i):vl xs n<vl ys n:=by
  induction n with
  |zero=>omega
  |succ n ih=>
    rw[vl_succ,vl_succ]
    by_cases e:i=n
    · subst e
      have h1:=(vl_bd hx i).2
      have h2:=(vl_bd hy i).1
      have h3:(lz xs i+1)*pw i≤lz ys i*pw i:=Int.mul_le_mul_of_nonneg_right (by omega) (Int.le_of_lt (pw_pos i))
      rw[Int.add_mul]at h3
      omega
    have:=ih (by omega) (fun j h1 h2=>hs j h1 (by omega))
    rw[hs n (by omega) (by omega)]
    omega

theorem list_ext_lz (hl:xs.length=ys.length)(h: ∀i,i<xs.length→lz xs i=lz ys i):xs=ys:=by
  apply List.ext_getElem hl
  intro i h1 h2
  have:=h i h1
  simpa [lz,h1,h2] using this

theorem vl_inj (hx:Limbs xs)(hy:Limbs ys){n:Nat}(h:vl xs n=vl ys n): ∀i,i<n→lz xs i=lz ys i:=by
  induction n with
  |zero=>intro i hi;omega
  |succ n ih=>
    rw[vl_succ,vl_succ]at h
    have a1:=vl_bd hx n
    have a2:=vl_bd hy n
    have hp:=pw_pos n
    have e:lz xs n=lz ys n:=by
      have hlt: ∀p q:Int,p<q→∀u v:Int,0≤v→u<pw n→u+p*pw n≠v+q*pw n:=by
        intro p q hpq u v hv hu he
        have h3:(p+1)*pw n≤q*pw n:=Int.mul_le_mul_of_nonneg_right (by omega) (by omega)
        rw[Int.add_mul]at h3
        omega
      rcases Int.lt_trichotomy (lz xs n) (lz ys n)with h1|h1|h1
      · exact absurd h (hlt _ _ h1 _ _ a2.1 a1.2)
      · exact h1
      exact absurd h.symm (hlt _ _ h1 _ _ a1.1 a2.2)
    intro i hi
    by_cases e2:i=n
    · subst e2;exact e
    exact ih (by rw[e]at h;omega) i (by omega)

theorem canon_inj (hx:Canon xs)(hy:Canon ys)(h:val xs=val ys):xs=ys:=by
  have hl:xs.length=ys.length:=by
    rcases Nat.lt_trichotomy xs.length ys.length with h1|h1|h1
    · have:=val_lt_of_length hx.1 hy h1;omega
    · exact h1
    have:=val_lt_of_length hy.1 hx h1;omega
  refine list_ext_lz hl (vl_inj hx.1 hy.1 ?_)
  have:vl ys xs.length=val ys:=by rw[hl];rfl
  rw[this];exact h

theorem canon_zero (hx:Canon xs):val xs=0↔xs= []:=by
  constructor
  · intro h;exact canon_inj hx canon_nil (by rw[h];rfl)
  rintro rfl;rfl

theorem carry_step {k:Nat}{s T:Int}(hk:k<zs.length)(h:vl zs k+cr*pw k=T):
    vl (zs.set k ((cr+s)%4294967296)) (k+1)+((cr+s) / 4294967296)*pw (k+1)=T+s*pw k:=by
  rw[vl_succ,vl_set_past _ _ _ _ (Nat.le_refl _) hk,lz_set _ _ _ _ hk,if_pos rfl,pw_succ]
  have e:(cr+s)%4294967296+4294967296*((cr+s) / 4294967296)=cr+s:=Int.emod_add_mul_ediv _ _
  have e2:(cr+s) / 4294967296*(4294967296*pw k)=(4294967296*((cr+s) / 4294967296))*pw k:=by
    rw[←Int.mul_assoc,Int.mul_comm ((cr+s) / 4294967296)]
  rw[e2,Int.add_assoc,←Int.add_mul,e,Int.add_mul]
  omega

theorem borrow_step {k:Nat}{bw d T:Int}(hk:k<zs.length)(h:vl zs k-bw*pw k=T):
    vl (zs.set k ((4294967296+d-bw)%4294967296)) (k+1)-(1-(4294967296+d-bw) / 4294967296)*pw (k+1)=T+d*pw k:=by
  rw[vl_succ,vl_set_past _ _ _ _ (Nat.le_refl _) hk,lz_set _ _ _ _ hk,if_pos rfl,pw_succ]
  have e:(4294967296+d-bw)%4294967296+4294967296*((4294967296+d-bw) / 4294967296)=4294967296+d-bw:=Int.emod_add_mul_ediv _ _
  generalize (4294967296+d-bw)%4294967296=z at*
  generalize (4294967296+d-bw) / 4294967296=q at*
  have e3:z=4294967296+d-bw-4294967296*q:=by omega
  subst e3
  have e4:(1-q)*(4294967296*pw k)=(4294967296-4294967296*q)*pw k:=by
    rw[←Int.mul_assoc,Int.sub_mul,Int.one_mul,Int.mul_comm q]
  rw[e4,←h]
  simp only[Int.sub_mul,Int.add_mul]
  omega

theorem mul_step {P Y:List Int}{i j:Nat}{x:Int}(hk:i+j<zs.length)(hP:lz zs (i+j)=lz P (i+j))(h:vl zs (i+j)+cr*pw (i+j)=vl P (i+j)+x*vl Y j*pw i):
    vl (zs.set (i+j) ((cr+(x*lz Y j+lz zs (i+j)))%4294967296)) (i+j+1)+((cr+(x*lz Y j+lz zs (i+j))) / 4294967296)*pw (i+j+1)=vl P (i+j+1)+x*vl Y (j+1)*pw i:=by
  rw[carry_step hk h,vl_succ P,vl_succ Y,hP,pw_add]
  simp only[Int.add_mul,Int.mul_add]
  have e:x*(lz Y j*pw j)*pw i=x*lz Y j*(pw i*pw j):=by
    rw[←Int.mul_assoc x,Int.mul_assoc (x*lz Y j),Int.mul_comm (pw j)]
  rw[e]
  omega

theorem mul_last {P X Y:List Int}{i:Nat}(hk:i+m<zs.length)(hY:Y.length=m)(h:vl zs (i+m)+cr*pw (i+m)=vl P (i+m)+lz X i*vl Y m*pw i)(hP:vl P (i+m)=vl X i*val Y):
    vl (zs.set (i+m) cr) (i+m+1)=vl X (i+1)*val Y:=by
  rw[vl_succ,vl_set_past _ _ _ _ (Nat.le_refl _) hk,lz_set _ _ _ _ hk,if_pos rfl,h,hP,vl_succ,Int.add_mul]
  have e:vl Y m=val Y:=by unfold val;rw[hY]
  rw[e,Int.mul_right_comm]

theorem mul_bd {x y:Int}(h0:0≤x)(h1:x<4294967296)(h2:0≤y)(h3:y<4294967296):0≤x*y∧x*y≤18446744065119617025:=by
  refine⟨Int.mul_nonneg h0 h2,?_⟩
  have h4:x*y≤4294967295*y:=Int.mul_le_mul_of_nonneg_right (by omega) h2
  omega

theorem vl_set (x:Int)(hm:m<zs.length)(hn:m<n):vl (zs.set m x) n=vl zs n+(x-lz zs m)*pw m:=by
  induction n with
  |zero=>omega
  |succ n ih=>
    rw[vl_succ,vl_succ,lz_set _ _ _ _ hm]
    by_cases e:n=m
    · subst e
      rw[if_pos rfl,vl_set_past _ _ _ _ (Nat.le_refl _) hm,Int.sub_mul]
      omega
    rw[if_neg e,ih (by omega)]
    omega

theorem div_step {zk:List Int}{len:Nat}{d r q r':Int}(hm:m<len)(hl:len≤zk.length)(hz:lz zk m=lz zs m)(hq:r*4294967296+lz zs m=d*q+r')
    (h:vl zs len-vl zs (m+1)=d*(vl zk len-vl zk (m+1))+r*pw (m+1)):
    vl zs len-vl zs m=d*(vl (zk.set m q) len-vl (zk.set m q) m)+r'*pw m:=by
  rw[vl_set q (by omega) hm,vl_set_past _ _ _ _ (Nat.le_refl _) (by omega)]
  rw[vl_succ,vl_succ,pw_succ,hz]at h
  have e1:r*(4294967296*pw m)=(d*q+r'-lz zs m)*pw m:=by rw[←Int.mul_assoc];congr 1;omega
  rw[e1]at h
  have e2:d*(vl zk len+(q-lz zk m)*pw m-vl zk m)=d*(vl zk len-(vl zk m+lz zs m*pw m))+d*q*pw m:=by
    rw[hz,Int.mul_assoc d q,←Int.mul_add]
    congr 1
    rw[Int.sub_mul];omega
  rw[e2]
  simp only[Int.add_mul,Int.sub_mul]at h
  omega

def cmpI (a b:Int):Int:=if a<b then -1 else if b<a then 1 else 0

end Go.Proofs.YtaafoppaepcaeaaGreat

namespace Go.Proofs.YtaafoppaepcaeaaGreat
open Go.RowKit
namespace Pd

variable {ws a b:List Int}{x y:Int}{k n:Nat}
def Ws (ws:List Int):Prop:=∀z∈ws,0≤z∧z<18446744073709551616
def hb (ws:List Int)(r:Nat):Bool:=(lz ws (r / 64)).toNat.testBit (r%64)
theorem Ws.lz (h:Ws ws)(i:Nat):0≤lz ws i∧Go.Proofs.YtaafoppaepcaeaaGreat.lz ws i<18446744073709551616:=by
 unfold Go.Proofs.YtaafoppaepcaeaaGreat.lz
 by_cases hi:i<ws.length
 ·have e:ws.getD i 0=ws[i]:=by simp[List.getD,hi]
  rw[e];exact h _ (List.getElem_mem hi)
 have e:ws.getD i 0=0:=by simp[List.getD,List.getElem?_eq_none (Nat.le_of_not_lt hi)]
 rw[e];decide
theorem Ws.set (h:Ws ws)(i:Nat){x:Int}(h0:0≤x∧x<18446744073709551616):Ws (ws.set i x):=fun z hz=>by
 rcases List.mem_or_eq_of_mem_set hz with h2|h2
 ·exact h z h2
 subst h2;exact h0
theorem Ws.rep (n:Nat):Ws (List.replicate n 0):=fun z hz=>by
 rw[List.eq_of_mem_replicate hz];decide
theorem hb_rep (n r:Nat):hb (List.replicate n 0) r=false:=by
 unfold hb lz
 by_cases hi:r / 64<n
 ·simp[List.getD,hi]
 simp[List.getD,List.getElem?_eq_none (l:=List.replicate n (0:Int)) (i:=r / 64) (by simpa using hi)]
theorem bv_nat (x:Int)(h:0≤x∧x<18446744073709551616):BitVec.ofInt 64 x=BitVec.ofNat 64 x.toNat:=by
 obtain⟨n,rfl⟩: ∃n:Nat,x=n:=⟨x.toNat,by omega⟩
 simp
theorem and_w (hx:0≤x∧x<18446744073709551616)(hy:0≤y∧y<18446744073709551616):bits .and .u64 x y=((x.toNat&&& y.toNat:Nat):Int):=by
 have h1:x.toNat<2^64:=by omega
 have h2:y.toNat<2^64:=by omega
 have h3:x.toNat&&& y.toNat<2^64:=Nat.and_lt_two_pow _ h2
 show IntKind.u64.wrap ((BitVec.ofInt 64 x&&& BitVec.ofInt 64 y).toNat:Int)=_
 rw[bv_nat x hx,bv_nat y hy]
 simp only[BitVec.toNat_and,BitVec.toNat_ofNat,Nat.mod_eq_of_lt h1,Nat.mod_eq_of_lt h2]
 rw[IntKind.wrap_u64]
 omega
theorem or_w (hx:0≤x∧x<18446744073709551616)(hy:0≤y∧y<18446744073709551616):bits .or .u64 x y=((x.toNat|||y.toNat:Nat):Int):=by
 have h1:x.toNat<2^64:=by omega
 have h2:y.toNat<2^64:=by omega
 have h3:x.toNat|||y.toNat<2^64:=Nat.or_lt_two_pow h1 h2
 show IntKind.u64.wrap ((BitVec.ofInt 64 x|||BitVec.ofInt 64 y).toNat:Int)=_
 rw[bv_nat x hx,bv_nat y hy]
 simp only[BitVec.toNat_or,BitVec.toNat_ofNat,Nat.mod_eq_of_lt h1,Nat.mod_eq_of_lt h2]
 rw[IntKind.wrap_u64]
 omega
theorem and_bd (hx:0≤x∧x<18446744073709551616)(hy:0≤y∧y<18446744073709551616):0≤bits .and .u64 x y∧bits .and .u64 x y<18446744073709551616:=by
 rw[and_w hx hy]
 have h3:x.toNat&&& y.toNat<2^64:=Nat.and_lt_two_pow _ (by omega)
 omega
theorem or_bd (hx:0≤x∧x<18446744073709551616)(hy:0≤y∧y<18446744073709551616):0≤bits .or .u64 x y∧bits .or .u64 x y<18446744073709551616:=by
 rw[or_w hx hy]
 have h3:x.toNat|||y.toNat<2^64:=Nat.or_lt_two_pow (by omega) (by omega)
 omega
theorem pw2_bd (h:k<64):(0:Int)≤((2^k:Nat):Int)∧((2^k:Nat):Int)<18446744073709551616:=by
 have h1:2^k<2^64:=Nat.pow_lt_pow_right (by omega) h
 generalize 2^k=m at*
 omega
theorem shl_w (h:k<64):IntKind.u64.wrap (1*2^k)=((2^k:Nat):Int):=by
 have h1:=pw2_bd h
 rw[IntKind.wrap_u64,Int.one_mul]
 have e:((2:Int)^k)=((2^k:Nat):Int):=by simp
 rw[e]
 generalize 2^k=m at*
 omega
theorem and_bit (hx:0≤x∧x<18446744073709551616)(h:k<64):(bits .and .u64 x ((2^k:Nat):Int) !=0)=x.toNat.testBit k:=by
 rw[and_w hx (pw2_bd h),Int.toNat_natCast]
 have e: ∀j,(x.toNat&&& 2^k).testBit j=(x.toNat.testBit j&&decide (k=j)):=fun j=>by rw[Nat.testBit_and,Nat.testBit_two_pow]
 cases hb:x.toNat.testBit k with
 |false=>
  have:x.toNat&&& 2^k=0:=Nat.eq_of_testBit_eq fun j=>by
   rw[e,Nat.zero_testBit]
   by_cases hj:k=j
   ·subst hj;rw[hb];rfl
   simp[hj]
  rw[this];rfl
 |true=>
  have h2:(x.toNat&&& 2^k).testBit k=true:=by rw[e,hb];simp
  have h3:x.toNat&&& 2^k≠0:=fun h0=>by rw[h0]at h2;simp at h2
  generalize x.toNat&&& 2^k=m at h3
  simpa using h3
theorem or_bit (hx:0≤x∧x<18446744073709551616)(h:k<64)(j:Nat):(bits .or .u64 x ((2^k:Nat):Int)).toNat.testBit j=(x.toNat.testBit j||decide (k=j)):=by
 rw[or_w hx (pw2_bd h),Int.toNat_natCast,Int.toNat_natCast,Nat.testBit_or,Nat.testBit_two_pow]
def adB (ws:List Int)(r:Nat):List Int:=ws.set (r / 64) (bits .or .u64 (lz ws (r / 64)) ((2^(r%64):Nat):Int))
theorem adB_ws (h:Ws ws)(r:Nat):Ws (adB ws r):=by
 exact h.set _ (or_bd (h.lz _) (pw2_bd (by omega)))
theorem adB_len (ws:List Int)(r:Nat):(adB ws r).length=ws.length:=by unfold adB;simp
theorem hb_adB (h:Ws ws){r:Nat}(hr:r / 64<ws.length)(j:Nat):hb (adB ws r) j=(hb ws j||decide (r=j)):=by
 unfold hb adB
 rw[lz_set _ _ _ _ hr]
 split
 ·rename_i e
  rw[or_bit (h.lz _) (by omega),e]
  congr 1
  rw[decide_eq_decide]
  omega
 rename_i e
 rw[decide_eq_false (fun e2=>e (by rw[e2])),Bool.or_false]
def zipB (op:Int→Int→Int)(a b:List Int)(n:Nat):List Int:=(List.range n).map fun i=>op (lz a i) (lz b i)
theorem lz_zip {op:Int→Int→Int}{i:Nat}(h:i<n):lz (zipB op a b n) i=op (lz a i) (lz b i):=by
 unfold zipB
 rw[lz.eq_1]
 simp[List.getD,h]
theorem hb_and (ha:Ws a)(hb':Ws b){n r:Nat}(h:r / 64<n):hb (zipB (bits .and .u64) a b n) r=(hb a r&&hb b r):=by
 unfold hb
 rw[lz_zip h,and_w (ha.lz _) (hb'.lz _),Int.toNat_natCast,Nat.testBit_and]
theorem hb_or (ha:Ws a)(hb':Ws b){n r:Nat}(h:r / 64<n):hb (zipB (bits .or .u64) a b n) r=(hb a r||hb b r):=by
 unfold hb
 rw[lz_zip h,or_w (ha.lz _) (hb'.lz _),Int.toNat_natCast,Nat.testBit_or]
theorem zip_ws {op:Int→Int→Int}(h: ∀i,i<n→0≤op (lz a i) (lz b i)∧op (lz a i) (lz b i)<18446744073709551616):Ws (zipB op a b n):=fun z hz=>by
 unfold zipB at hz
 simp only[List.mem_map,List.mem_range]at hz
 obtain⟨i,hi,rfl⟩:=hz
 exact h i hi
theorem zip_len (op:Int→Int→Int)(a b:List Int)(n:Nat):(zipB op a b n).length=n:=by unfold zipB;simp
theorem hb_out {r:Nat}(h:ws.length≤r / 64):hb ws r=false:=by
 unfold hb
 rw[lz_out h]
 simp
theorem row_ext (ha:Ws a)(hb':Ws b)(hl:a.length=b.length)(h: ∀j,hb a j=hb b j):a=b:=by
 refine List.ext_getElem hl fun i h1 h2=> ?_
 have e1:a[i]=lz a i:=by unfold lz;simp[List.getD,h1]
 have e2:b[i]=lz b i:=by unfold lz;simp[List.getD,h2]
 rw[e1,e2]
 have ba:=ha.lz i
 have bb:=hb'.lz i
 have:(lz a i).toNat=(lz b i).toNat:=by
  refine Nat.eq_of_testBit_eq fun j=> ?_
  by_cases hj:j<64
  ·have:=h (64*i+j)
   unfold hb at this
   rwa [show(64*i+j) / 64=i by omega,show(64*i+j)%64=j by omega]at this
  have h3:2^64≤2^j:=Nat.pow_le_pow_right (by omega) (by omega)
  rw[Nat.testBit_lt_two_pow (by omega),Nat.testBit_lt_two_pow (by omega)]
 omega
def plc (cs:List Int)(x:Int):Nat:=cs.countP fun c=>decide (c≤x)
theorem plc_le (cs:List Int)(x:Int):plc cs x≤cs.length:=List.countP_le_length
theorem plc_eq {cs:List Int}(hn:n≤cs.length)(h1: ∀c∈cs.take n,c≤x)(h2: ∀c∈cs.drop n,x<c):plc cs x=n:=by
 unfold plc
 conv=>lhs;rw[←List.take_append_drop n cs]
 rw[List.countP_append]
 have e1:(cs.take n).countP (fun c=>decide (c≤x))=(cs.take n).length:=List.countP_eq_length.2 fun c hc=>by simpa using h1 c hc
 have e2:(cs.drop n).countP (fun c=>decide (c≤x))=0:=List.countP_eq_zero.2 fun c hc=>by have:=h2 c hc;simp;omega
 rw[e1,e2,List.length_take]
 omega
theorem plc_snoc (cs:List Int)(c x:Int):plc (cs++ [c]) x=plc cs x+if c≤x then 1 else 0:=by
 unfold plc
 rw[List.countP_append]
 congr 1
 by_cases h:c≤x <;> simp[h]
theorem plc_all {cs:List Int}(h: ∀c∈cs,c≤x):plc cs x=cs.length:=List.countP_eq_length.2 fun c hc=>by simpa using h c hc
structure PD where
 p:Nat
 cs:List Int
 rs:List (List Int)
def rw' (D:PD)(i:Nat):List Int:=D.rs.getD i []
def mem (D:PD)(x:Int):Bool:=hb (rw' D (plc D.cs x)) (x%D.p).toNat
def wn (p:Nat):Nat:=(p+63) / 64
structure Rok (p:Nat) (r:List Int):Prop where
 ws:Ws r
 len:r.length=wn p
 top: ∀j,p≤j→hb r j=false
structure Wf (D:PD):Prop where
 p1:1≤D.p
 p2:D.p≤4096
 up:D.cs.Pairwise (· < ·)
 len:D.rs.length=D.cs.length+1
 row: ∀r∈D.rs,Rok D.p r
 nb: ∀i,i+1<D.rs.length→rw' D i≠rw' D (i+1)
theorem lt_wn {p r:Nat}(h:r<p):r / 64<wn p:=by unfold wn;omega
theorem Wf.rok {D:PD}(h:Wf D){i:Nat}(hi:i<D.rs.length):Rok D.p (rw' D i):=by
 have e:rw' D i=D.rs[i]:=by unfold rw';simp[List.getD,hi]
 rw[e]
 exact h.row _ (List.getElem_mem hi)
theorem Wf.place {D:PD}(h:Wf D)(x:Int):plc D.cs x<D.rs.length:=by
 have h1:=plc_le D.cs x
 have h2:=h.len
 omega
theorem mod_lt' {p:Nat}(h:1≤p)(x:Int):(x%(p:Int)).toNat<p:=by
 have h1:=Int.emod_lt_of_pos x (show(0:Int)<p by omega)
 have h2:=Int.emod_nonneg x (show(p:Int)≠0 by omega)
 omega
end Pd
namespace Pd

variable {a b r:List Int}{i j p:Nat}
structure SE where
 f:Int
 i:Nat
 j:Nat
def se (L:List SE)(k:Nat):SE:=L.getD k ⟨0,0,0⟩
theorem se_old {L:List SE}{s:SE}{k:Nat}(h:k<L.length):se (L++ [s]) k=se L k:=by
 unfold se
 simp[List.getD,List.getElem?_append_left h]
theorem se_new (L:List SE)(s:SE):se (L++ [s]) L.length=s:=by
 unfold se
 simp[List.getD]
structure Str (a b:List Int) (L:List SE) (i j:Nat):Prop where
 ne:1≤L.length
 fst:(se L 0).i=0∧(se L 0).j=0
 lst:(se L (L.length-1)).i=i∧(se L (L.length-1)).j=j
 idx: ∀k,k<L.length→(se L k).i≤a.length∧(se L k).j≤b.length
 lo: ∀k,1≤k→k<L.length→(∀c∈a.take (se L k).i,c≤(se L k).f)∧∀c∈b.take (se L k).j,c≤(se L k).f
 gt: ∀k,1≤k→k<L.length→(∀c∈a.drop (se L k).i,(se L k).f<c)∧∀c∈b.drop (se L k).j,(se L k).f<c
 hi: ∀k,k+1<L.length→(∀c∈a.drop (se L k).i,(se L (k+1)).f≤c)∧∀c∈b.drop (se L k).j,(se L (k+1)).f≤c
 up: ∀k,1≤k→k+1<L.length→(se L k).f<(se L (k+1)).f
 of: ∀k,1≤k→k<L.length→(se L k).f∈a∨(se L k).f∈b
theorem str_one (a b:List Int)(f:Int):Str a b [⟨f,0,0⟩] 0 0 where
 ne:=Nat.le_refl _
 fst:=⟨rfl,rfl⟩
 lst:=⟨rfl,rfl⟩
 idx k h:=by
  obtain rfl:k=0:=by simp at h;omega
  exact⟨Nat.zero_le _,Nat.zero_le _⟩
 lo k h1 h:=by simp at h;omega
 gt k h1 h:=by simp at h;omega
 hi k h:=by simp at h
 up k h1 h:=by simp at h
 of k h1 h:=by simp at h;omega
theorem str_snoc {L:List SE}{i' j':Nat}{c:Int}(h:Str a b L i j)(hi:i'≤a.length)(hj:j'≤b.length)
  (la: ∀x∈a.take i',x≤c)(lb: ∀x∈b.take j',x≤c)(ga: ∀x∈a.drop i',c<x)(gb: ∀x∈b.drop j',c<x)
  (ha: ∀x∈a.drop i,c≤x)(hb: ∀x∈b.drop j,c≤x)(hin:c∈a.drop i∨c∈b.drop j):Str a b (L++ [⟨c,i',j'⟩]) i' j':=by
 have hne:=h.ne
 have hlen:(L++ [SE.mk c i' j']).length=L.length+1:=by simp
 refine⟨by rw[hlen];omega,by rw[se_old (by omega)];exact h.fst,by rw[hlen,Nat.add_sub_cancel,se_new];exact⟨rfl,rfl⟩,fun k hk=> ?_,fun k h1 hk=> ?_,fun k h1 hk=> ?_,fun k hk=> ?_,fun k h1 hk=> ?_,fun k h1 hk=> ?_⟩
 ·rw[hlen]at hk
  by_cases e:k=L.length
  ·subst e;rw[se_new];exact⟨hi,hj⟩
  rw[se_old (by omega)];exact h.idx k (by omega)
 ·rw[hlen]at hk
  by_cases e:k=L.length
  ·subst e;rw[se_new];exact⟨la,lb⟩
  rw[se_old (by omega)];exact h.lo k h1 (by omega)
 ·rw[hlen]at hk
  by_cases e:k=L.length
  ·subst e;rw[se_new];exact⟨ga,gb⟩
  rw[se_old (by omega)];exact h.gt k h1 (by omega)
 ·rw[hlen]at hk
  by_cases e:k+1=L.length
  ·rw[se_old (by omega),e,se_new]
   obtain⟨l1,l2⟩:=h.lst
   rw[←e,Nat.add_sub_cancel]at l1 l2
   rw[l1,l2]
   exact⟨ha,hb⟩
  rw[se_old (by omega),se_old (by omega)];exact h.hi k (by omega)
 ·rw[hlen]at hk
  by_cases e:k+1=L.length
  ·rw[se_old (by omega),e,se_new]
   obtain⟨l1,l2⟩:=h.lst
   have hg:=h.gt k h1 (by omega)
   rw[←e,Nat.add_sub_cancel]at l1 l2
   rw[l1,l2]at hg
   rcases hin with h2|h2
   ·exact hg.1 c h2
   exact hg.2 c h2
  rw[se_old (by omega),se_old (by omega)];exact h.up k h1 (by omega)
 rw[hlen]at hk
 by_cases e:k=L.length
 ·subst e;rw[se_new];exact hin.imp List.mem_of_mem_drop List.mem_of_mem_drop
 rw[se_old (by omega)];exact h.of k h1 (by omega)
theorem drop_up (ha:a.Pairwise (· < ·)){i:Nat}(hi:i<a.length):(∀x∈a.drop i,a[i]≤x)∧(∀x∈a.drop (i+1),a[i]<x)∧(∀x∈a.take (i+1),x≤a[i])∧∀x∈a.take i,x<a[i]:=by
 have hg:=List.pairwise_iff_getElem.1 ha
 refine⟨fun x hx=> ?_,fun x hx=> ?_,fun x hx=> ?_,fun x hx=> ?_⟩
 ·obtain⟨k,hk,rfl⟩:=List.mem_iff_getElem.1 hx
  rw[List.length_drop]at hk
  rw[List.getElem_drop]
  by_cases e:k=0
  ·subst e;exact Int.le_refl _
  exact Int.le_of_lt (hg i (i+k) hi (by omega) (by omega))
 ·obtain⟨k,hk,rfl⟩:=List.mem_iff_getElem.1 hx
  rw[List.length_drop]at hk
  rw[List.getElem_drop]
  exact hg i (i+1+k) hi (by omega) (by omega)
 ·obtain⟨k,hk,rfl⟩:=List.mem_iff_getElem.1 hx
  rw[List.length_take]at hk
  rw[List.getElem_take]
  by_cases e:k=i
  ·subst e;exact Int.le_refl _
  exact Int.le_of_lt (hg k i (by omega) hi (by omega))
 obtain⟨k,hk,rfl⟩:=List.mem_iff_getElem.1 hx
 rw[List.length_take]at hk
 rw[List.getElem_take]
 exact hg k i (by omega) hi (by omega)
theorem mem_drop (hi:i<a.length):a[i]∈a.drop i:=by
 rw[List.drop_eq_getElem_cons hi]
 exact List.mem_cons_self
theorem take_le {L:List SE}(h:Str a b L i j){c:Int}(hc:c∈a.drop i∨c∈b.drop j):(∀x∈a.take i,x≤c)∧∀x∈b.take j,x≤c:=by
 have hne:=h.ne
 by_cases e:L.length=1
 ·have h1:=h.fst
  have h2:=h.lst
  rw[e]at h2
  obtain⟨rfl,rfl⟩:i=0∧j=0:=⟨by rw[←h2.1];exact h1.1,by rw[←h2.2];exact h1.2⟩
  exact⟨fun x hx=>by simp at hx,fun x hx=>by simp at hx⟩
 have h1:=h.lo (L.length-1) (by omega) (by omega)
 have h2:=h.gt (L.length-1) (by omega) (by omega)
 obtain⟨l1,l2⟩:=h.lst
 rw[l1,l2]at h1 h2
 have h3:(se L (L.length-1)).f<c:=by
  rcases hc with hc|hc
  ·exact h2.1 c hc
  exact h2.2 c hc
 exact⟨fun x hx=>Int.le_of_lt (Int.lt_of_le_of_lt (h1.1 x hx) h3),fun x hx=>Int.le_of_lt (Int.lt_of_le_of_lt (h1.2 x hx) h3)⟩
theorem str_a {L:List SE}(h:Str a b L i j)(ha:a.Pairwise (· < ·))(hi:i<a.length)(hj:j≤b.length)(hl: ∀x∈b.drop j,a[i]<x):Str a b (L++ [⟨a[i],i+1,j⟩]) (i+1) j:=by
 obtain⟨d1,d2,d3,-⟩:=drop_up ha hi
 exact str_snoc h (by omega) hj d3 (take_le h (.inl (mem_drop hi))).2 d2 hl d1 (fun x hx=>Int.le_of_lt (hl x hx)) (.inl (mem_drop hi))
theorem str_b {L:List SE}(h:Str a b L i j)(hb:b.Pairwise (· < ·))(hj:j<b.length)(hi:i≤a.length)(hl: ∀x∈a.drop i,b[j]<x):Str a b (L++ [⟨b[j],i,j+1⟩]) i (j+1):=by
 obtain⟨d1,d2,d3,-⟩:=drop_up hb hj
 exact str_snoc h hi (by omega) (take_le h (.inr (mem_drop hj))).1 d3 hl d2 (fun x hx=>Int.le_of_lt (hl x hx)) d1 (.inr (mem_drop hj))
theorem str_ab {L:List SE}(h:Str a b L i j)(ha:a.Pairwise (· < ·))(hb:b.Pairwise (· < ·))(hi:i<a.length)(hj:j<b.length)(he:a[i]=b[j]):Str a b (L++ [⟨a[i],i+1,j+1⟩]) (i+1) (j+1):=by
 obtain⟨d1,d2,d3,-⟩:=drop_up ha hi
 obtain⟨e1,e2,e3,-⟩:=drop_up hb hj
 rw[←he]at e1 e2 e3
 exact str_snoc h (by omega) (by omega) d3 e3 d2 e2 d1 e1 (.inl (mem_drop hi))
theorem str_place {L:List SE}(h:Str a b L a.length b.length){k:Nat}{x:Int}(hk:k<L.length)(h1:1≤k→(se L k).f≤x)(h2:k+1<L.length→x<(se L (k+1)).f):plc a x=(se L k).i∧plc b x=(se L k).j:=by
 obtain⟨i1,i2⟩:=h.idx k hk
 have lo:(∀c∈a.take (se L k).i,c≤x)∧∀c∈b.take (se L k).j,c≤x:=by
  by_cases e:k=0
  ·subst e
   rw[h.fst.1,h.fst.2]
   exact⟨fun x hx=>by simp at hx,fun x hx=>by simp at hx⟩
  have:=h.lo k (by omega) hk
  have h3:=h1 (by omega)
  exact⟨fun c hc=>Int.le_trans (this.1 c hc) h3,fun c hc=>Int.le_trans (this.2 c hc) h3⟩
 have hi:(∀c∈a.drop (se L k).i,x<c)∧∀c∈b.drop (se L k).j,x<c:=by
  by_cases e:k+1<L.length
  ·have:=h.hi k e
   have h3:=h2 e
   exact⟨fun c hc=>Int.lt_of_lt_of_le h3 (this.1 c hc),fun c hc=>Int.lt_of_lt_of_le h3 (this.2 c hc)⟩
  obtain⟨l1,l2⟩:=h.lst
  obtain rfl:k=L.length-1:=by omega
  rw[l1,l2]
  exact⟨fun x hx=>by simp at hx,fun x hx=>by simp at hx⟩
 exact⟨plc_eq i1 lo.1 hi.1,plc_eq i2 lo.2 hi.2⟩
def layD (D:PD)(f:Int)(r:List Int):PD:=if D.rs= []then⟨D.p,D.cs,[r]⟩else if r=rw' D (D.rs.length-1)then D else⟨D.p,D.cs++ [f],D.rs++ [r]⟩
structure Wp (D:PD) (ub:Int→Prop):Prop where
 up:D.cs.Pairwise (· < ·)
 len:D.rs.length=D.cs.length+1
 row: ∀r∈D.rs,Rok D.p r
 nb: ∀i,i+1<D.rs.length→rw' D i≠rw' D (i+1)
 lt: ∀c∈D.cs,ub c
theorem rw_old {D:PD}{cs:List Int}(h:i<D.rs.length):rw' ⟨D.p,cs,D.rs++ [r]⟩ i=rw' D i:=by
 unfold rw'
 simp[List.getD,List.getElem?_append_left h]
theorem rw_new (D:PD)(cs:List Int)(r:List Int):rw' ⟨D.p,cs,D.rs++ [r]⟩ D.rs.length=r:=by
 unfold rw'
 simp[List.getD]
theorem lay_p (D:PD)(f:Int)(r:List Int):(layD D f r).p=D.p:=by
 unfold layD
 split
 ·rfl
 split <;> rfl
theorem lay_first (f:Int)(hr:Rok p r)(ub:Int→Prop):Wp (layD ⟨p,[],[]⟩ f r) ub∧∀x,mem (layD ⟨p,[],[]⟩ f r) x=hb r (x%p).toNat:=by
 have e:layD ⟨p,[],[]⟩ f r=⟨p,[],[r]⟩:=rfl
 rw[e]
 refine⟨⟨List.Pairwise.nil,rfl,fun q hq=> ?_,fun i h=>by simp at h,fun c h=>absurd h List.not_mem_nil⟩,fun x=>rfl⟩
 rw[List.mem_singleton.1 hq]
 exact hr
theorem lay_next {D:PD}{f:Int}(h:Wp D (· <f))(hr:Rok D.p r):Wp (layD D f r) (·≤f)∧∀x,mem (layD D f r) x=if x<f then mem D x else hb r (x%D.p).toNat:=by
 have hl:=h.len
 have hne:D.rs≠ []:=fun e=>by rw[e]at hl;simp at hl
 unfold layD
 rw[if_neg hne]
 split
 ·rename_i hre
  refine⟨⟨h.up,h.len,h.row,h.nb,fun c hc=>Int.le_of_lt (h.lt c hc)⟩,fun x=> ?_⟩
  split
  ·rfl
  rename_i hx
  unfold mem
  rw[plc_all (fun c hc=>by have:=h.lt c hc;omega),hre]
  congr 2
  omega
 rename_i hre
 refine⟨⟨?_,by simp[hl],fun q hq=> ?_,fun i hi=> ?_,fun c hc=> ?_⟩,fun x=> ?_⟩
 ·exact List.pairwise_append.2 ⟨h.up,List.pairwise_singleton _ _,fun a ha b hb=>by rw[List.mem_singleton.1 hb];exact h.lt a ha⟩
 ·rcases List.mem_append.1 hq with hq|hq
  ·exact h.row q hq
  rw[List.mem_singleton.1 hq];exact hr
 ·simp only[List.length_append,List.length_singleton]at hi
  by_cases e:i+1<D.rs.length
  ·rw[rw_old (by omega),rw_old e]
   exact h.nb i e
  have e2:i+1=D.rs.length:=by omega
  rw[rw_old (by omega),e2,rw_new]
  have:i=D.rs.length-1:=by omega
  rw[this]
  exact fun h=>hre h.symm
 ·rcases List.mem_append.1 hc with hc|hc
  ·exact Int.le_of_lt (h.lt c hc)
  rw[List.mem_singleton.1 hc];exact Int.le_refl _
 unfold mem
 show hb (rw' ⟨D.p,D.cs++ [f],D.rs++ [r]⟩ (plc (D.cs++ [f]) x)) (x%D.p).toNat=_
 rw[plc_snoc]
 by_cases hx:x<f
 ·rw[if_neg (show ¬f≤x by omega),if_pos hx,Nat.add_zero,rw_old (by have:=plc_le D.cs x;omega)]
 rw[if_pos (show f≤x by omega),if_neg hx,plc_all (fun c hc=>by have:=h.lt c hc;omega),←hl,rw_new]
def jn (p:Nat)(L:List SE)(R:Nat→List Int):Nat→PD
 |0=>⟨p,[],[]⟩
 |k+1=>layD (jn p L R k) (se L k).f (R k)
theorem jn_p (p:Nat)(L:List SE)(R:Nat→List Int)(k:Nat):(jn p L R k).p=p:=by
 induction k with
 |zero=>rfl
 |succ k ih=>show(layD (jn p L R k) _ _).p=p;rw[lay_p,ih]
theorem jn_ok {L:List SE}{R:Nat→List Int}{m:Int→Bool}(hup: ∀k,1≤k→k+1<L.length→(se L k).f<(se L (k+1)).f)(hR: ∀k,k<L.length→Rok p (R k))
  (hm: ∀k x,k<L.length→(1≤k→(se L k).f≤x)→(k+1<L.length→x<(se L (k+1)).f)→m x=hb (R k) (x%p).toNat)(k:Nat):
  1≤k→k≤L.length→Wp (jn p L R k) (fun c=>2≤k∧c≤(se L (k-1)).f)∧∀x,(k<L.length→x<(se L k).f)→mem (jn p L R k) x=m x:=by
 induction k with
 |zero=>exact fun h=>by omega
 |succ k ih=>
  intro h1 h2
  by_cases e:k=0
  ·subst e
   obtain⟨w,hw⟩:=lay_first (se L 0).f (hR 0 (by omega)) (fun c=>2≤0+1∧c≤(se L (0+1-1)).f)
   refine⟨w,fun x hx=> ?_⟩
   rw[hm 0 x (by omega) (fun h=>by omega) hx]
   exact hw x
  obtain⟨w,hw⟩:=ih (by omega) (by omega)
  have hp:=jn_p p L R k
  have w':Wp (jn p L R k) (· <(se L k).f):=⟨w.up,w.len,w.row,w.nb,fun c hc=>by
   obtain⟨h3,h4⟩:=w.lt c hc
   have h5:=hup (k-1) (by omega) (by omega)
   rw[show k-1+1=k by omega]at h5
   omega⟩
  obtain⟨v,hv⟩:=lay_next (f:=(se L k).f) (r:=R k) w' (by rw[hp];exact hR k (by omega))
  refine⟨⟨v.up,v.len,v.row,v.nb,fun c hc=>⟨by omega,by rw[Nat.add_sub_cancel];exact v.lt c hc⟩⟩,fun x hx=> ?_⟩
  show mem (layD (jn p L R k) (se L k).f (R k)) x=m x
  rw[hv x]
  split
  ·rename_i hlt
   exact hw x fun _=>hlt
  rename_i hge
  rw[hm k x (by omega) (fun _=>by omega) hx,hp]
theorem jn_all {L:List SE}{R:Nat→List Int}{m:Int→Bool}(hp1:1≤p)(hp2:p≤4096)(hL:1≤L.length)(hup: ∀k,1≤k→k+1<L.length→(se L k).f<(se L (k+1)).f)(hR: ∀k,k<L.length→Rok p (R k))
  (hm: ∀k x,k<L.length→(1≤k→(se L k).f≤x)→(k+1<L.length→x<(se L (k+1)).f)→m x=hb (R k) (x%p).toNat):
  Wf (jn p L R L.length)∧∀x,mem (jn p L R L.length) x=m x:=by
 obtain⟨w,hw⟩:=jn_ok hup hR hm L.length hL (Nat.le_refl _)
 have hp:=jn_p p L R L.length
 exact⟨⟨by rw[hp];exact hp1,by rw[hp];exact hp2,w.up,w.len,w.row,w.nb⟩,fun x=>hw x fun h=>absurd h (Nat.lt_irrefl _)⟩
end Pd
namespace Cr
open Pd (plc plc_le plc_all plc_snoc plc_eq)

variable {q:Nat}{l:List Int}
structure RE where
 p:Nat
 cs:List Int
 rs:List (List Bool)
def row (E:RE)(i:Nat):List Bool:=E.rs.getD i []
def rowAt (E:RE)(x:Int):List Bool:=row E (plc E.cs x)
def bit (r:List Bool)(i:Nat):Bool:=r.getD i false
def mm (E:RE)(x:Int):Bool:=bit (rowAt E x) (x%E.p).toNat
structure Wr (E:RE):Prop where
 p1:1≤E.p
 p2:E.p≤4096
 up:E.cs.Pairwise (· < ·)
 len:E.rs.length=E.cs.length+1
 row: ∀r∈E.rs,r.length=E.p
theorem Wr.rl {E:RE}(h:Wr E){i:Nat}(hi:i<E.cs.length+1):(Cr.row E i).length=E.p:=by
 have hl:=h.len
 have e:Cr.row E i=E.rs[i]'(by omega):=by unfold Cr.row;simp[List.getD,show i<E.rs.length by omega]
 rw[e]
 exact h.row _ (List.getElem_mem _)
theorem Wr.pl {E:RE}(_:Wr E)(x:Int):plc E.cs x<E.cs.length+1:=by have:=plc_le E.cs x;omega
theorem Wr.at {E:RE}(h:Wr E)(x:Int):(rowAt E x).length=E.p:=h.rl (h.pl x)
def whole (r:List Bool):RE:=⟨r.length,[],[r]⟩
theorem whole_wr {r:List Bool}(h1:1≤r.length)(h2:r.length≤4096):Wr (whole r):=⟨h1,h2,List.Pairwise.nil,rfl,fun s hs=>by rw[List.mem_singleton.1 hs];rfl⟩
theorem whole_at (r:List Bool)(x:Int):rowAt (whole r) x=r:=rfl
def noneE :RE:=whole [false]
theorem none_mm (x:Int):mm noneE x=false:=by
 show bit [false] (x%(1:Int)).toNat=false
 rw[Int.emod_one]
 rfl
def aboveE (k:Int):RE:=⟨1,[k+1],[[false],[true]]⟩
theorem above_wr (k:Int):Wr (aboveE k):=⟨Nat.le_refl 1,show 1≤4096 by decide,List.pairwise_singleton _ _,rfl,fun s hs=>by
 simp only[aboveE,List.mem_cons,List.not_mem_nil,or_false]at hs
 rcases hs with rfl|rfl <;> rfl⟩
theorem above_mm (k x:Int):mm (aboveE k) x=decide (k<x):=by
 unfold mm rowAt
 show bit (row (aboveE k) (plc [k+1] x)) (x%(1:Int)).toNat=_
 rw[Int.emod_one]
 by_cases h:k<x
 ·rw[show plc [k+1] x=1 from plc_all fun c hc=>by rw[List.mem_singleton.1 hc];omega,decide_eq_true h]
  rfl
 rw[show plc [k+1] x=0 by simp[plc];omega,decide_eq_false h]
 rfl
def classE (d r:Int):RE:=whole ((List.replicate d.natAbs false).set (r%(d.natAbs:Int)).toNat true)
theorem class_mm {d r:Int}(h1:d≠0)(x:Int):mm (classE d r) x=decide (x%(d.natAbs:Int)=r%(d.natAbs:Int)):=by
 unfold mm
 rw[show rowAt (classE d r) x=(List.replicate d.natAbs false).set (r%(d.natAbs:Int)).toNat true from rfl]
 rw[show(classE d r).p=d.natAbs by simp[classE,whole]]
 have a1:=Int.emod_nonneg x (show(d.natAbs:Int)≠0 by omega)
 have a2:=Int.emod_nonneg r (show(d.natAbs:Int)≠0 by omega)
 have a3:=Int.emod_lt_of_pos x (show(0:Int)<(d.natAbs:Int)by omega)
 unfold bit
 rw[List.getD_eq_getElem?_getD,List.getElem?_set]
 by_cases h:x%(d.natAbs:Int)=r%(d.natAbs:Int)
 ·rw[decide_eq_true h,h,if_pos rfl,if_pos (by rw[List.length_replicate];omega)]
  rfl
 rw[decide_eq_false h,if_neg (by omega),List.getElem?_replicate]
 split <;> rfl
def restE (E:RE):RE:=⟨E.p,E.cs,E.rs.map fun r=>r.map fun b=> !b⟩
theorem rest_wr {E:RE}(h:Wr E):Wr (restE E):=⟨h.p1,h.p2,h.up,by simp[restE,h.len],fun s hs=>by
 simp only[restE,List.mem_map]at hs
 obtain⟨r,hr,rfl⟩:=hs
 rw[List.length_map]
 exact h.row r hr⟩
theorem md_lt {p:Nat}(h:1≤p)(x:Int):(x%(p:Int)).toNat<p:=Pd.mod_lt' h x
theorem rest_mm {E:RE}(h:Wr E)(x:Int):mm (restE E) x= !mm E x:=by
 have hp:=h.pl x
 have hl:=h.len
 have hr:=h.at x
 have hm:=md_lt h.p1 x
 unfold mm
 show bit (row (restE E) (plc E.cs x)) (x%(E.p:Int)).toNat=_
 have e:row (restE E) (plc E.cs x)=(rowAt E x).map fun b=> !b:=by
  unfold row rowAt row restE
  simp[List.getD,show plc E.cs x<E.rs.length by omega]
 rw[e]
 unfold bit
 simp[List.getD,show(x%(E.p:Int)).toNat<(rowAt E x).length by omega]
def both (ob:Bool→Bool→Bool)(a b:List Bool)(q:Nat):List Bool:=(List.range q).map fun i=>ob (bit a (i%a.length)) (bit b (i%b.length))
theorem both_len (ob:Bool→Bool→Bool)(a b:List Bool)(q:Nat):(both ob a b q).length=q:=by simp[both]
theorem both_bit {ob:Bool→Bool→Bool}{a b:List Bool}{i:Nat}(h:i<q):bit (both ob a b q) i=ob (bit a (i%a.length)) (bit b (i%b.length)):=by
 unfold both
 rw[bit.eq_1]
 simp[List.getD,h]
def layE (E:RE)(c:Int)(r:List Bool):RE:=if row E E.cs.length=r then E else⟨E.p,E.cs++ [c],E.rs++ [r]⟩
structure Jn (q:Nat) (l:List Int) (f:Int→List Bool) (k:Nat) (E:RE):Prop where
 p:E.p=q
 up:E.cs.Pairwise (· < ·)
 len:E.rs.length=E.cs.length+1
 row: ∀r∈E.rs,r.length=q
 lo: ∀c∈E.cs,c∈l.take k
 ck:E.cs.length≤k
 at': ∀x,(∀c∈l.drop k,x<c)→rowAt E x=f x
theorem jn_zero {f:Int→List Bool}{r:List Bool}(hr:r.length=q)(hf: ∀x,(∀c∈l,x<c)→f x=r):Jn q l f 0 (whole r):=
 ⟨hr,List.Pairwise.nil,rfl,fun s hs=>by rw[List.mem_singleton.1 hs];exact hr,fun c hc=>absurd hc List.not_mem_nil,Nat.le_refl _,fun x hx=>by rw[whole_at];exact(hf x hx).symm⟩
theorem jn_step {f:Int→List Bool}{k:Nat}{E:RE}(h:Jn q l f k E)(hk:k<l.length)(hu:l.Pairwise (· < ·))(hfl: ∀x,(f x).length=q)(hf: ∀x y,x≤y→(∀c∈l,¬(x<c∧c≤y))→f x=f y):
  Jn q l f (k+1) (layE E l[k] (f l[k])):=by
 have hlo: ∀c∈E.cs,c<l[k]:=fun c hc=>by
  obtain⟨i,hi,rfl⟩:=List.mem_iff_getElem.1 (h.lo c hc)
  rw[List.length_take]at hi
  rw[List.getElem_take]
  exact List.pairwise_iff_getElem.1 hu i k (by omega) hk (by omega)
 have hlast: ∀x,l[k]≤x→(∀c∈l.drop (k+1),x<c)→f l[k]=f x:=fun x hx hd=>hf _ _ hx fun c hc ⟨h1,h2⟩=>by
  obtain⟨i,hi,rfl⟩:=List.mem_iff_getElem.1 hc
  by_cases hik:i≤k
  ·by_cases e:i=k
   ·subst e;omega
   have:=List.pairwise_iff_getElem.1 hu i k (by omega) hk (by omega)
   omega
  have:=hd l[i] (by rw[List.mem_iff_getElem];exact⟨i-(k+1),by rw[List.length_drop];omega,by rw[List.getElem_drop];congr 1;omega⟩)
  omega
 have hdrop: ∀x,x<l[k]→(∀c∈l.drop (k+1),x<c)→∀c∈l.drop k,x<c:=fun x hx hd c hc=>by
  rw[List.drop_eq_getElem_cons hk]at hc
  rcases List.mem_cons.1 hc with rfl|hc
  ·exact hx
  exact hd c hc
 have htk: ∀c∈E.cs,c∈l.take (k+1):=fun c hc=>by
  rw[List.take_succ_eq_append_getElem hk]
  exact List.mem_append_left _ (h.lo c hc)
 have hhi: ∀x,l[k]≤x→rowAt E x=row E E.cs.length:=fun x hx=>by
  unfold rowAt
  rw[plc_all fun c hc=>by have:=hlo c hc;omega]
 unfold layE
 split
 ·rename_i he
  refine⟨h.p,h.up,h.len,h.row,htk,Nat.le_succ_of_le h.ck,fun x hx=> ?_⟩
  by_cases hxk:x<l[k]
  ·exact h.at' x (hdrop x hxk hx)
  rw[hhi x (by omega),he]
  exact hlast x (by omega) hx
 refine⟨h.p,?_,by simp[h.len],fun r hr=> ?_,fun c hc=> ?_,by have:=h.ck;simp;omega,fun x hx=> ?_⟩
 ·rw[List.pairwise_append]
  exact⟨h.up,List.pairwise_singleton _ _,fun a ha b hb=>by rw[List.mem_singleton.1 hb];exact hlo a ha⟩
 ·rcases List.mem_append.1 hr with hr|hr
  ·exact h.row r hr
  rw[List.mem_singleton.1 hr];exact hfl _
 ·rcases List.mem_append.1 hc with hc|hc
  ·exact htk c hc
  rw[List.mem_singleton.1 hc,List.take_succ_eq_append_getElem hk]
  exact List.mem_append_right _ (List.mem_singleton.2 rfl)
 have hl:=h.len
 unfold rowAt row
 show(E.rs++ [f l[k]]).getD (plc (E.cs++ [l[k]]) x) []=_
 rw[plc_snoc]
 by_cases hxk:x<l[k]
 ·rw[if_neg (by omega),Nat.add_zero]
  have hp:=plc_le E.cs x
  rw[List.getD_eq_getElem?_getD,List.getElem?_append_left (by omega),←List.getD_eq_getElem?_getD]
  exact h.at' x (hdrop x hxk hx)
 rw[if_pos (by omega),plc_all fun c hc=>by have:=hlo c hc;omega,←hl,List.getD_eq_getElem?_getD,List.getElem?_append_right (by omega),Nat.sub_self]
 exact hlast x (by omega) hx
def jf (ob:Bool→Bool→Bool)(A B:RE)(q:Nat)(x:Int):List Bool:=both ob (rowAt A x) (rowAt B x) q
theorem plc_same {cs:List Int}{x y:Int}(hxy:x≤y)(h: ∀c∈cs,¬(x<c∧c≤y)):plc cs x=plc cs y:=by
 unfold plc
 refine List.countP_congr fun c hc=> ?_
 have:=h c hc
 simp only[decide_eq_true_eq]
 omega
theorem jf_same {ob:Bool→Bool→Bool}{A B:RE}(hl: ∀c,c∈l↔c∈A.cs∨c∈B.cs)(x y:Int)(hxy:x≤y)(h: ∀c∈l,¬(x<c∧c≤y)):jf ob A B q x=jf ob A B q y:=by
 unfold jf rowAt
 rw[plc_same hxy fun c hc=>h c ((hl c).2 (.inl hc)),plc_same hxy fun c hc=>h c ((hl c).2 (.inr hc))]
theorem jf_low {ob:Bool→Bool→Bool}{A B:RE}(hl: ∀c,c∈l↔c∈A.cs∨c∈B.cs)(x:Int)(h: ∀c∈l,x<c):jf ob A B q x=both ob (row A 0) (row B 0) q:=by
 unfold jf rowAt
 have e: ∀cs:List Int,(∀c∈cs,x<c)→plc cs x=0:=fun cs hc=>List.countP_eq_zero.2 fun c h1=>by have:=hc c h1;simp;omega
 rw[e _ fun c hc=>h c ((hl c).2 (.inl hc)),e _ fun c hc=>h c ((hl c).2 (.inr hc))]
theorem jn_end {ob:Bool→Bool→Bool}{A B E:RE}(hA:Wr A)(hB:Wr B)(hq1:1≤q)(hq2:q≤4096)(hdA:A.p∣q)(hdB:B.p∣q)(h:Jn q l (jf ob A B q) l.length E):Wr E∧E.p=q∧∀x,mm E x=ob (mm A x) (mm B x):=by
 refine⟨⟨by rw[h.p];exact hq1,by rw[h.p];exact hq2,h.up,h.len,fun r hr=>by rw[h.p];exact h.row r hr⟩,h.p,fun x=> ?_⟩
 have hm:=md_lt hq1 x
 have e: ∀F:RE,1≤F.p→F.p∣q→(x%(q:Int)).toNat%F.p=(x%(F.p:Int)).toNat:=fun F h1 h2=>by
  have a1:=Int.emod_nonneg x (show(q:Int)≠0 by omega)
  have e1:((x%(q:Int)).toNat%F.p:Nat)=(x%(q:Int)%(F.p:Int)).toNat:=by
   rw[Int.toNat_emod a1 (by omega),Int.toNat_natCast]
  rw[e1,Int.emod_emod_of_dvd x (by exact_mod_cast h2)]
 show bit (rowAt E x) (x%(E.p:Int)).toNat=_
 rw[h.p,h.at' x (fun c hc=>by rw[List.drop_length]at hc;exact absurd hc List.not_mem_nil)]
 unfold jf
 rw[both_bit hm,hA.at x,hB.at x,e A hA.p1 hdA,e B hB.p1 hdB]
 rfl
end Cr
end Go.Proofs.YtaafoppaepcaeaaGreat
