/-
 Several texts in one: Dec,E0.
-/
import Derived.Test.YtbgpddlcfiiiaaaGreatDoorSbm00
import Derived.Lib.ItoaNum
import Derived.Lib.Repeat
namespace Go.Proofs.YtbgpddlcfiiiaaaGreatDoor

def pad :Nat→Nat→List UInt8
 |0,_=> []
 |k+1,u=>pad k (u / 10)++ [UInt8.ofNat (48+u%10)]

theorem pad_length (k u:Nat):(pad k u).length=k:=by
 induction k generalizing u with
 |zero=>rfl
 |succ k ih=>simp[pad,ih]

theorem dec_step (u:Nat)(h: ¬u<10):Lib.decDigits u=Lib.decDigits (u / 10)++ [UInt8.ofNat (48+u%10)]:=by
 rw[Lib.decDigits,dif_neg h]

theorem dec_small (u:Nat)(h:u<10):Lib.decDigits u= [UInt8.ofNat (48+u)]:=by
 rw[Lib.decDigits,dif_pos h]

theorem dec_noughts (k u:Nat)(hu:u<10^k)(hk:0<k):Lib.repeatL [48] (k-(Lib.decDigits u).length)++Lib.decDigits u=pad k u:=by
 induction k generalizing u with
 |zero=>omega
 |succ k ih=>
  by_cases h:u<10
  ·rw[dec_small u h]
   have e:pad k 0=Lib.repeatL [48] k:=by
    clear ih hu
    induction k with
    |zero=>rfl
    |succ k ih2=>
     simp only[pad,Nat.zero_div,ih2 (by omega)]
     have: ∀m,Lib.repeatL [48] m++ [(48:UInt8)]= [48]++Lib.repeatL [48] m:=by
      intro m
      induction m with
      |zero=>rfl
      |succ m ih3=>simp only[Lib.repeatL,List.append_assoc,ih3]
     exact this k
   have e2:u / 10=0:=by omega
   have e3:u%10=u:=by omega
   simp only[pad,e2,e3,e,List.length_singleton,Nat.add_sub_cancel]
  have hl:=dec_step u h
  have hk0:0<k:=by
   rcases Nat.eq_zero_or_pos k with rfl|h'
   ·simp at hu;omega
   exact h'
  have:=ih (u / 10) (by rw[Nat.pow_succ]at hu;omega) hk0
  rw[hl,List.length_append,List.length_singleton,←List.append_assoc]
  rw[show k+1-((Lib.decDigits (u / 10)).length+1)=k-(Lib.decDigits (u / 10)).length from by omega,this]
  rfl

theorem dec_length_le (k u:Nat)(hu:u<10^k)(hk:0<k):(Lib.decDigits u).length≤k:=by
 have h:=congrArg List.length (dec_noughts k u hu hk)
 rw[pad_length,List.length_append]at h
 omega

namespace Nt

variable {t r s:List UInt8}
structure Nd where
 kind:Int
 d:Int
 ps:List (Int × Int)
 k:Int
 var:Int
 kids:List Int

def dig (c:UInt8):Bool:=decide (48≤c.toNat)&&decide (c.toNat≤57)
theorem dig_of (m:Nat)(h:m<10):dig (UInt8.ofNat (48+m))=true:=by
 have h1:(UInt8.ofNat (48+m)).toNat=48+m:=by
  rw[UInt8.toNat_ofNat']
  omega
 unfold dig
 rw[h1]
 simp
 omega
def vd (l:List UInt8):Nat:=l.foldl (fun a c=>a*10+(c.toNat-48)) 0
theorem vd_snoc (l:List UInt8)(c:UInt8):vd (l++ [c])=vd l*10+(c.toNat-48):=by simp[vd]
theorem dec_all (n:Nat):(∀c∈Lib.decDigits n,dig c=true)∧vd (Lib.decDigits n)=n∧Lib.decDigits n≠ []:=by
 induction n using Nat.strongRecOn with
 |_ n ih=>
  by_cases h:n<10
  ·rw[dec_small n h]
   refine⟨fun c hc=> ?_,?_,by simp⟩
   ·rw[List.mem_singleton.1 hc]
    exact dig_of n h
   have h1:(UInt8.ofNat (48+n)).toNat=48+n:=by
    rw[UInt8.toNat_ofNat']
    omega
   simp only[vd,List.foldl_cons,List.foldl_nil,h1]
   omega
  rw[dec_step n h]
  obtain⟨h1,h2,h3⟩:=ih (n / 10) (by omega)
  refine⟨fun c hc=> ?_,?_,by simp⟩
  ·rcases List.mem_append.1 hc with hc|hc
   ·exact h1 c hc
   rw[List.mem_singleton.1 hc]
   exact dig_of (n%10) (by omega)
  have h4:(UInt8.ofNat (48+n%10)).toNat=48+n%10:=by
   rw[UInt8.toNat_ofNat']
   omega
  rw[vd_snoc,h2,h4]
  omega
def Nod (r:List UInt8):Prop:=∀c t,r=c::t→dig c=false
def Mark (r:List UInt8):Prop:=∀c t,r=c::t→100≤c.toNat
theorem mark_nil :Mark []:=fun c t h=>by cases h
theorem mark_cons {c:UInt8}(h:100≤c.toNat):Mark (c::t):=fun c' t' h'=>by cases h';exact h
theorem Mark.nod (h:Mark r):Nod r:=fun c t e=>by
 have h1:=h c t e
 unfold dig
 simp
 omega
theorem nod_cons {c:UInt8}(h:dig c=false):Nod (c::t):=fun c' t' h'=>by cases h';exact h
theorem take_dig {l:List UInt8}(hl: ∀c∈l,dig c=true)(hr:Nod r):(l++r).takeWhile dig=l:=by
 rw[List.takeWhile_append_of_pos hl]
 cases r with
 |nil=>simp
 |cons c t=>simp[hr c t rfl]
theorem dec_cancel {a b:Nat}(hr:Nod r)(hs:Nod s)(h:Lib.decDigits a++r=Lib.decDigits b++s):a=b∧r=s:=by
 obtain⟨ha,va,-⟩:=dec_all a
 obtain⟨hb,vb,-⟩:=dec_all b
 have h1:=congrArg (List.takeWhile dig) h
 rw[take_dig ha hr,take_dig hb hs]at h1
 have h2:a=b:=by rw[←va,←vb,h1]
 subst h2
 exact⟨rfl,List.append_cancel_left h⟩

theorem dec_head (n:Nat): ∃c t,Lib.decDigits n=c::t∧dig c=true:=by
 obtain⟨h1,-,h3⟩:=dec_all n
 cases h:Lib.decDigits n with
 |nil=>exact absurd h h3
 |cons c t=>exact⟨c,t,rfl,h1 c (by rw[h];simp)⟩
theorem itoa_cancel {a b:Int}(hr:Nod r)(hs:Nod s)(h:Lib.itoa a++r=Lib.itoa b++s):a=b∧r=s:=by
 unfold Lib.itoa at h
 obtain⟨ca,ta,ea,da⟩:=dec_head a.toNat
 obtain⟨cb,tb,eb,db⟩:=dec_head b.toNat
 split at h <;> split at h
 ·rw[List.cons_append,List.cons_append]at h
  obtain⟨h1,h2⟩:=dec_cancel hr hs (List.cons.inj h).2
  exact⟨by omega,h2⟩
 ·rw[eb,List.cons_append,List.cons_append]at h
  rw[←(List.cons.inj h).1]at db
  exact absurd db (by decide)
 ·rw[ea,List.cons_append,List.cons_append]at h
  rw[(List.cons.inj h).1]at da
  exact absurd da (by decide)
 obtain⟨h1,h2⟩:=dec_cancel hr hs h
 exact⟨by omega,h2⟩

def limbsF :Nat→Nat→List Nat
 |0,_=> []
 |f+1,n=>if n=0 then []else n%4294967296::limbsF f (n / 4294967296)
def limbs (n:Nat):List Nat:=limbsF n n
theorem limbsF_eq : ∀(f g n:Nat),n≤f→n≤g→limbsF f n=limbsF g n
 |0,0,_,_,_=>rfl
 |0,g+1,n,h,_=>by simp[limbsF,Nat.le_zero.1 h]
 |f+1,0,n,_,h=>by simp[limbsF,Nat.le_zero.1 h]
 |f+1,g+1,n,h,k=>by
  unfold limbsF
  split
  ·rfl
  rw[limbsF_eq f g (n / 4294967296) (by omega) (by omega)]
theorem limbs_def (n:Nat):limbs n=if _h:n=0 then []else n%4294967296::limbs (n / 4294967296):=by
 cases n with
 |zero=>rfl
 |succ m=>
  have e:=limbsF_eq m ((m+1) / 4294967296) ((m+1) / 4294967296) (by omega) (by omega)
  unfold limbs
  rw[dif_neg (by omega),←e]
  simp[limbsF]
def unlimb :List Nat→Nat
 | []=>0
 |x::l=>x+4294967296*unlimb l
theorem unlimb_limbs (n:Nat):unlimb (limbs n)=n:=by
 induction n using Nat.strongRecOn with
 |_ n ih=>
  rw[limbs_def]
  split
  ·next h=>rw[h];rfl
  next h=>
  simp only[unlimb]
  rw[ih (n / 4294967296) (by omega)]
  omega
def lmT (l:List Nat):List UInt8:=l.flatMap fun x=>46::Lib.decDigits x
theorem lmT_cons (x:Nat)(l:List Nat):lmT (x::l)=46::(Lib.decDigits x++lmT l):=by simp[lmT]
theorem lmT_nod {l:List Nat}(hr:Mark r):Nod (lmT l++r):=by
 cases l with
 |nil=>simpa [lmT] using hr.nod
 |cons x l=>rw[lmT_cons];exact nod_cons (by decide)
theorem lmT_cancel {l m:List Nat}(hr:Mark r)(hs:Mark s)(h:lmT l++r=lmT m++s):l=m∧r=s:=by
 induction l generalizing m with
 |nil=>
  cases m with
  |nil=>exact⟨rfl,by simpa [lmT] using h⟩
  |cons y m=>
   rw[lmT_cons]at h
   have h1:r=46::(Lib.decDigits y++lmT m++s):=by simpa [lmT] using h
   exact absurd (hr _ _ h1) (by decide)
 |cons x l ih=>
  cases m with
  |nil=>
   rw[lmT_cons]at h
   have h1:s=46::(Lib.decDigits x++lmT l++r):=by simpa [lmT] using h.symm
   exact absurd (hs _ _ h1) (by decide)
  |cons y m=>
   rw[lmT_cons,lmT_cons,List.cons_append,List.cons_append,List.append_assoc,List.append_assoc]at h
   obtain⟨h1,h2⟩:=dec_cancel (lmT_nod hr) (lmT_nod hs) (List.cons.inj h).2
   obtain⟨h3,h4⟩:=ih h2
   exact⟨by rw[h1,h3],h4⟩
def intT (z:Int):List UInt8:=(if z<0 then [45]else [])++lmT (limbs z.natAbs)
theorem intT_nod {z:Int}(hr:Mark r):Nod (intT z++r):=by
 unfold intT
 split
 ·exact nod_cons (by decide)
 exact lmT_nod hr
theorem lmT_head {l:List Nat}{c:UInt8}(hr:Mark r)(h:lmT l++r=c::t):c≠45:=by
 cases l with
 |nil=>
  have h1:r=c::t:=by simpa [lmT] using h
  have h2:=hr _ _ h1
  rintro rfl
  exact absurd h2 (by decide)
 |cons x l=>
  rw[lmT_cons]at h
  rw[←(List.cons.inj h).1]
  decide
theorem intT_cancel {a b:Int}(hr:Mark r)(hs:Mark s)(h:intT a++r=intT b++s):a=b∧r=s:=by
 unfold intT at h
 have key:lmT (limbs a.natAbs)++r=lmT (limbs b.natAbs)++s→a.natAbs=b.natAbs∧r=s:=fun h1=>by
  obtain⟨h2,h3⟩:=lmT_cancel hr hs h1
  refine⟨?_,h3⟩
  rw[←unlimb_limbs a.natAbs,←unlimb_limbs b.natAbs,h2]
 split at h <;> split at h
 ·obtain⟨h1,h2⟩:=key (List.cons.inj h).2
  exact⟨by omega,h2⟩
 ·exact absurd rfl (lmT_head hs (c:=45) (t:=lmT (limbs a.natAbs)++r) (by simpa using h.symm))
 ·exact absurd rfl (lmT_head hr (c:=45) (t:=lmT (limbs b.natAbs)++s) (by simpa using h))
 obtain⟨h1,h2⟩:=key (by simpa using h)
 exact⟨by omega,h2⟩
def psT (ps:List (Int × Int)):List UInt8:=ps.flatMap fun p=>112::(Lib.itoa p.1++intT p.2)
theorem psT_cons (p:Int × Int)(ps:List (Int × Int)):psT (p::ps)=112::(Lib.itoa p.1++(intT p.2++psT ps)):=by simp[psT]
theorem psT_mark {ps:List (Int × Int)}(hr:Mark r):Mark (psT ps++r):=by
 cases ps with
 |nil=>simpa [psT] using hr
 |cons p ps=>rw[psT_cons];exact mark_cons (by decide)
theorem psT_cancel {ps qs:List (Int × Int)}(h:psT ps++107::r=psT qs++107::s):ps=qs∧r=s:=by
 induction ps generalizing qs with
 |nil=>
  cases qs with
  |nil=>exact⟨rfl,by simpa [psT] using h⟩
  |cons q qs=>
   rw[psT_cons]at h
   simp[psT]at h
 |cons p ps ih=>
  cases qs with
  |nil=>
   rw[psT_cons]at h
   simp[psT]at h
  |cons q qs=>
   rw[psT_cons,psT_cons]at h
   simp only[List.cons_append,List.append_assoc]at h
   obtain⟨h1,h2⟩:=itoa_cancel (intT_nod (psT_mark (mark_cons (by decide)))) (intT_nod (psT_mark (mark_cons (by decide)))) (List.cons.inj h).2
   obtain⟨h3,h4⟩:=intT_cancel (psT_mark (mark_cons (by decide))) (psT_mark (mark_cons (by decide))) h2
   obtain⟨h5,h6⟩:=ih h4
   exact⟨by rw[h5];congr 1;exact Prod.ext h1 h3,h6⟩
def kdT (l:List Int):List UInt8:=l.flatMap fun i=>110::Lib.itoa i
theorem kdT_cons (i:Int)(l:List Int):kdT (i::l)=110::(Lib.itoa i++kdT l):=by simp[kdT]
theorem kdT_mark (l:List Int):Mark (kdT l):=by
 cases l with
 |nil=>exact mark_nil
 |cons p ps=>rw[kdT_cons];exact mark_cons (by decide)
theorem kdT_inj {l m:List Int}(h:kdT l=kdT m):l=m:=by
 induction l generalizing m with
 |nil=>
  cases m with
  |nil=>rfl
  |cons y m=>rw[kdT_cons]at h;cases h
 |cons x l ih=>
  cases m with
  |nil=>rw[kdT_cons]at h;cases h
  |cons y m=>
   rw[kdT_cons,kdT_cons]at h
   obtain⟨h1,h2⟩:=itoa_cancel (kdT_mark l).nod (kdT_mark m).nod (List.cons.inj h).2
   rw[h1,ih h2]
def txt (n:Nd):List UInt8:=Lib.itoa n.kind++100::(intT n.d++(psT n.ps++107::(intT n.k++118::(Lib.itoa n.var++kdT n.kids))))
theorem txt_inj {a b:Nd}(h:txt a=txt b):a=b:=by
 obtain⟨h1,h⟩:=itoa_cancel (nod_cons (by decide)) (nod_cons (by decide)) h
 obtain⟨h2,h⟩:=intT_cancel (psT_mark (mark_cons (by decide))) (psT_mark (mark_cons (by decide))) (List.cons.inj h).2
 obtain⟨h3,h⟩:=psT_cancel h
 obtain⟨h4,h⟩:=intT_cancel (mark_cons (by decide)) (mark_cons (by decide)) h
 obtain⟨h5,h⟩:=itoa_cancel (kdT_mark _).nod (kdT_mark _).nod (List.cons.inj h).2
 have h6:=kdT_inj h
 cases a
 cases b
 simp_all
end Nt
end Go.Proofs.YtbgpddlcfiiiaaaGreatDoor
