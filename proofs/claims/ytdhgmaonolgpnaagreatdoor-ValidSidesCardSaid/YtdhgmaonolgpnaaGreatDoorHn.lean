import Derived.Test.YtdhgmaonolgpnaaGreatDoorShelfw
import Derived.Test.YtdhgmaonolgpnaaGreatDoorHi
set_option linter.unusedSimpArgs false
set_option linter.unusedVariables false
set_option maxHeartbeats 64000000
set_option maxRecDepth 100000
namespace Go.Proofs.YtdhgmaonolgpnaaGreatDoor
namespace Ow
open Js
def iw(b:Bool):Int:=if b then 1 else 0
mutual
def ord:Vl->Vl->Int
 |.mk k b n s l m,.mk k' b' n' s' l' m'=>
  if k≠k' then k-k' else if k=1 then iw b-iw b' else if k=2 then Nm.cmp n n' else if k=3 then Lib.compareBytes s s' else if k=4 then jm l l' else if k=5 then jn m m' else 0
def jm:List Vl->List Vl->Int
 |[],[]=>0
 |[],_::_=> -1
 |_::_,[]=>1
 |x::l,y::r=>if ord x y≠0 then ord x y else jm l r
def jn:List Js.Mem->List Js.Mem->Int
 |[],[]=>0
 |[],_::_=> -1
 |_::_,[]=>1
 |x::l,y::r=>if tp x y≠0 then tp x y else jn l r
def tp:Js.Mem->Js.Mem->Int
 |(k,v),(k',v')=>if Lib.compareBytes k k'≠0 then Lib.compareBytes k k' else ord v v'
end
def lex{α:Type}(c:α->α->Int):List α->List α->Int
 |[],[]=>0
 |[],_::_=> -1
 |_::_,[]=>1
 |x::l,y::r=>if c x y≠0 then c x y else lex c l r
theorem rX:∀l l':List Vl,jm l l'=lex ord l l'
 |[],[]=>by simp[jm,lex]
 |[],_::_=>by simp[jm,lex]
 |_::_,[]=>by simp[jm,lex]
 |x::l,y::r=>by simp only[jm,lex];rw[rX l r]
theorem rZ:∀l l':List Js.Mem,jn l l'=lex tp l l'
 |[],[]=>by simp[jn,lex]
 |[],_::_=>by simp[jn,lex]
 |_::_,[]=>by simp[jn,lex]
 |x::l,y::r=>by simp only[jn,lex];rw[rZ l r]
section
variable {α:Type} {c:α->α->Int}
theorem rz:∀{l l':List α},(∀x∈l,∀y∈l',c x y= -c y x)->lex c l l'= -lex c l' l
 |[],[],_=>rfl
 |[],_::_,_=>rfl
 |_::_,[],_=>rfl
 |x::l,y::r,h=>by
  have h1:=h x (by simp) y (by simp);have h2:=rz (l:=l) (l':=r) (λa ha b hb=>h a (by simp[ha]) b (by simp[hb]));simp only[lex];by_cases e:c x y=0
  .have e':c y x=0:=by omega
   rw[Jj (by simp[e]),Jj (by simp[e']),h2]
  .rw[Jo e,Jo (by omega),h1]
theorem rC:∀{l l':List α},(∀x∈l,∀y∈l',c x y=0↔x=y)->(lex c l l'=0↔l=l')
 |[],[],_=>by simp[lex]
 |[],_::_,_=>by simp[lex]
 |_::_,[],_=>by simp[lex]
 |x::l,y::r,h=>by
  have h1:=h x (by simp) y (by simp);have h2:=rC (l:=l) (l':=r) (λa ha b hb=>h a (by simp[ha]) b (by simp[hb]));simp only[lex];by_cases e:c x y=0
  .rw[Jj (by simp[e]),h2,h1.1 e];simp
  .rw[Jo e];refine⟨λq=>absurd q e,λq=>absurd (h1.2 (O0 q).1) e⟩
theorem rB{S:α->Prop}(hf:∀x y,S x->S y->c x y= -c y x)(hz:∀x y,S x->S y->(c x y=0↔x=y)):∀{l l' l'':List α},(∀x∈l,S x)->(∀x∈l',S x)->(∀x∈l'',S x)->
  (∀x∈l,∀y z,S y->S z->c x y<=0->c y z<=0->c x z<=0)->lex c l l'<=0->lex c l' l''<=0->lex c l l''<=0
 |[],[],_,_,_,_,_,_,h=>h
 |[],_::_,[],_,_,_,_,_,_=>by simp[lex]
 |[],_::_,_::_,_,_,_,_,_,_=>by simp[lex]
 |_::_,[],_,_,_,_,_,h,_=>by simp[lex] at h
 |_::_,_::_,[],_,_,_,_,_,h=>by simp[lex] at h
 |x::l,y::r,z::t,s1,s2,s3,hn,h1,h2=>by
  have sx:=s1 x (by simp);have sy:=s2 y (by simp);have sz:=s3 z (by simp);have ih:=rB hf hz (l:=l) (l':=r) (l'':=t) (λa h=>s1 a (by simp[h])) (λa h=>s2 a (by simp[h])) (λa h=>s3 a (by simp[h])) (λa h=>hn a (by simp[h]));have n1:=hn x (by simp) y z sy sz;simp only[lex] at h1 h2 ⊢;have fxy:=hf x y sx sy;have fyz:=hf y z sy sz;have fxz:=hf x z sx sz;have zxy:=hz x y sx sy;have zyz:=hz y z sy sz;have zxz:=hz x z sx sz;by_cases e1:c x y=0
  .rw[Jj (by simp[e1])] at h1;obtain rfl:=zxy.1 e1;by_cases e2:c x z=0
   .rw[Jj (by simp[e2])] at h2 ⊢;exact ih h1 h2
   .rw[Jo e2] at h2 ⊢;exact h2
  .rw[Jo e1] at h1;by_cases e2:c y z=0
   .obtain rfl:=zyz.1 e2;rw[Jo e1];exact h1
   .rw[Jo e2] at h2;have n2:=n1 h1 h2;have e3:c x z≠0:=λe=>by
     obtain rfl:=zxz.1 e;omega
    rw[Jo e3];exact n2
end
theorem gG(a b:Jd):Lib.compareBytes a b=0↔a=b:=⟨Nm.dQ a b,λh=>by rw[h,Nm.cF]⟩
theorem mz(k:Int)(b n s l m k' b' n' s' l' m'):ord (.mk k b n s l m) (.mk k' b' n' s' l' m')=if k≠k' then k-k' else if k=1 then iw b-iw b' else if k=2 then Nm.cmp n n' else if k=3 then Lib.compareBytes s s' else if k=4 then lex ord l l' else if k=5 then lex tp m m' else 0:=by
 simp only[ord,rX,rZ]
theorem fN(k v k' v'):tp (k,v) (k',v')=if Lib.compareBytes k k'≠0 then Lib.compareBytes k k' else ord v v':=by simp only[tp]
theorem il(a:Vl):∀b:Vl,a.may=true->b.may=true->ord a b= -ord b a:=by
 induction a using Vl.ind with
 |h k b n s l m hl hm=>
  rintro⟨k',b',n',s',l',m'⟩ ha hb;obtain⟨o0,o1,o2,o3,o4,o5,o6,o7,o8,o9,o10,o11⟩:=au ha;obtain⟨r0,r1,r2,r3,r4,r5,r6,r7,r8,r9,r10,r11⟩:=au hb;rw[mz,mz];by_cases hk:k=k'
  .subst hk;simp only[MY,LN,Kq];by_cases h1:k=1
   .rw[Jo h1,Jo h1];omega
   rw[Jj h1,Jj h1];by_cases h2:k=2
   .rw[Jo h2,Jo h2];exact Nm.wV _ _ (bF o7) (bF r7)
   rw[Jj h2,Jj h2];by_cases h3:k=3
   .rw[Jo h3,Jo h3];exact Nm.bT _ _
   rw[Jj h3,Jj h3];by_cases h4:k=4
   .rw[Jo h4,Jo h4];exact rz λx hx y hy=>hl x hx y ((ba l).1 o9 x hx) ((ba l').1 r9 y hy)
   rw[Jj h4,Jj h4];by_cases h5:k=5
   .rw[Jo h5,Jo h5];refine rz ?_;rintro⟨x,v⟩ hx ⟨y,u⟩ hy;have h6:=hm _ hx u ((br m).1 o10 _ hx).2 ((br m').1 r10 _ hy).2;have h7:=Nm.bT x y;simp only at h6;rw[fN,fN];by_cases e:Lib.compareBytes x y=0
    .rw[Jj (by omega),Jj (by omega)];exact h6
    .rw[Jo e,Jo (by omega)];exact h7
   rw[Jj h5,Jj h5];rfl
  .rw[Jo hk,Jo (λe=>hk e.symm)];omega
theorem DH(b b':Bool):iw b-iw b'=0↔b=b':=by cases b<;>cases b'<;>decide
theorem jG(a:Vl):∀b:Vl,a.may=true->b.may=true->(ord a b=0↔a=b):=by
 induction a using Vl.ind with
 |h k b n s l m hl hm=>
  rintro⟨k',b',n',s',l',m'⟩ ha hb;obtain⟨o0,o1,o2,o3,o4,o5,o6,o7,o8,o9,o10,o11⟩:=au ha;obtain⟨r0,r1,r2,r3,r4,r5,r6,r7,r8,r9,r10,r11⟩:=au hb;rw[mz,Vl.mk.injEq];by_cases hk:k=k'
  .subst hk;simp only[MY,LN,Kq];by_cases h1:k=1
   .subst h1;rw[Jo rfl,DH,o3 (by decide),o4 (by decide),o5 (by decide),o6 (by decide),r3 (by decide),r4 (by decide),r5 (by decide),r6 (by decide)];simp
   rw[Jj h1,o2 h1,r2 h1];by_cases h2:k=2
   .subst h2;rw[Jo rfl,Nm.qy _ _ (bF o7) (bF r7),o4 (by decide),o5 (by decide),o6 (by decide),r4 (by decide),r5 (by decide),r6 (by decide)];simp
   rw[Jj h2,o3 h2,r3 h2];by_cases h3:k=3
   .subst h3;rw[Jo rfl,gG,o5 (by decide),o6 (by decide),r5 (by decide),r6 (by decide)];simp
   rw[Jj h3,o4 h3,r4 h3];by_cases h4:k=4
   .subst h4;rw[Jo rfl,rC λx hx y hy=>hl x hx y ((ba l).1 o9 x hx) ((ba l').1 r9 y hy),o6 (by decide),r6 (by decide)];simp
   rw[Jj h4,o5 h4,r5 h4];by_cases h5:k=5
   .subst h5;rw[Jo rfl,rC (by
     rintro⟨x,v⟩ hx ⟨y,u⟩ hy;have h6:=hm _ hx u ((br m).1 o10 _ hx).2 ((br m').1 r10 _ hy).2;have h7:=gG x y;simp only at h6;rw[fN,Kl];by_cases e:Lib.compareBytes x y=0
     .rw[Jj (by omega),h6];simp[h7.1 e]
     .rw[Jo e];exact⟨λq=>absurd q e,λq=>absurd (h7.2 q.1) e⟩)]
    simp
   rw[Jj h5,o6 h5,r6 h5];simp
  .rw[Jo hk];exact⟨λh=>by omega,λh=>absurd h.1 hk⟩
theorem yk(a:Vl):∀b c:Vl,a.may=true->b.may=true->c.may=true->ord a b<=0->ord b c<=0->ord a c<=0:=by
 induction a using Vl.ind with
 |h k b n s l m hl hm=>
  rintro⟨k',b',n',s',l',m'⟩ ⟨k'',b'',n'',s'',l'',m''⟩ ha hb hc;obtain⟨o0,o1,o2,o3,o4,o5,o6,o7,o8,o9,o10,o11⟩:=au ha;obtain⟨r0,r1,r2,r3,r4,r5,r6,r7,r8,r9,r10,r11⟩:=au hb;obtain⟨t0,t1,t2,t3,t4,t5,t6,t7,t8,t9,t10,t11⟩:=au hc;rw[mz,mz,mz];by_cases hk:k=k'
  .subst hk;simp only[MY,LN,Kq];by_cases hk2:k=k''
   .subst hk2;simp only[LN,Kq];by_cases h1:k=1
    .simp only[h1,KJ];omega
    simp only[h1,Kq];by_cases h2:k=2
    .simp only[h2,KJ];exact Nm.wW _ _ _ (bF o7) (bF r7)
    simp only[h2,Kq];by_cases h3:k=3
    .simp only[h3,KJ];exact Nm.fv _ _ _
    simp only[h3,Kq];by_cases h4:k=4
    .simp only[h4,KJ];exact rB (S:=λv=>v.may=true) (λx y=>il x y) (λx y=>jG x y) ((ba l).1 o9) ((ba l').1 r9) ((ba l'').1 t9) λx hx y z sy sz=>hl x hx y z ((ba l).1 o9 x hx) sy sz
    simp only[h4,Kq];by_cases h5:k=5
    .simp only[h5,KJ];refine rB (S:=λp:Js.Mem=>p.2.may=true) ?_ ?_ (λp hp=>((br m).1 o10 p hp).2) (λp hp=>((br m').1 r10 p hp).2) (λp hp=>((br m'').1 t10 p hp).2) ?_
     .rintro⟨x,v⟩ ⟨y,u⟩ sx sy;have h6:=il v u sx sy;have h7:=Nm.bT x y;rw[fN,fN];by_cases e:Lib.compareBytes x y=0
      .rw[Jj (by omega),Jj (by omega)];exact h6
      .rw[Jo e,Jo (by omega)];exact h7
     .rintro⟨x,v⟩ ⟨y,u⟩ sx sy;have h6:=jG v u sx sy;have h7:=gG x y;rw[fN,Kl];by_cases e:Lib.compareBytes x y=0
      .rw[Jj (by omega),h6];simp[h7.1 e]
      .rw[Jo e];exact⟨λq=>absurd q e,λq=>absurd (h7.2 q.1) e⟩
     .rintro⟨x,v⟩ hx ⟨y,u⟩ ⟨z,q⟩ sy sz;have h6:=hm _ hx u q ((br m).1 o10 _ hx).2 sy sz;simp only at h6;rw[fN,fN,fN];have f1:=Nm.bT x y;have f2:=Nm.bT y z;have f3:=Nm.bT x z;have nx:=Nm.fv x y z;have nx':=Nm.fv z y x;by_cases e1:Lib.compareBytes x y=0
      .obtain rfl:=(gG x y).1 e1;rw[Jj (by simp[e1])];by_cases e2:Lib.compareBytes x z=0
       .simp only[e2,MY,LN,Kq];exact h6
       .simp only[e2,MY,not_false_eq_true,KJ];exactλ_ h=>h
      .rw[Jo e1];by_cases e2:Lib.compareBytes y z=0
       .obtain rfl:=(gG y z).1 e2;rw[Jo e1]
        exactλh _=>h
       .rw[Jo e2];intro g1 g2;have g3:=nx g1 g2;have e3:Lib.compareBytes x z≠0:=λe=>by
         obtain rfl:=(gG x z).1 e;omega
        rw[Jo e3];exact g3
    simp only[h5,Kq]
    exactλh _=>h
   .simp only[hk2,not_false_eq_true,KJ]
    exactλ_ h=>h
  .rw[Jo hk];by_cases hk2:k'=k''
   .subst hk2;rw[Jo hk]
    exactλh _=>h
   .rw[Jo hk2];intro g1 g2;rw[Jo (by omega)];omega
theorem Cy(l:List Vl)(v:Vl):oO l v=true↔v∈l:=by
 unfold oO;rw[Mo];constructor
 .rintro⟨u,hu,h⟩;rw[dV] at h;exact h▸hu
 .exactλh=>⟨v,h,uu v⟩
theorem tM:∀(l seen:List Vl),dup seen l=false↔l.Nodup/\∀x∈l,x∉seen
 |[],seen=>by simp[dup]
 |x::r,seen=>by
  rw[dup,NY,tM r,<-Bool.not_eq_true,Cy,LK];constructor
  .rintro⟨h1,h2,h3⟩;refine⟨⟨λh=>h3 x h (by simp),h2⟩,λy hy=>?_⟩;rcases JB.1 hy with rfl|hy
   .exact h1
   .exactλh=>h3 y hy (by simp[h])
  .rintro⟨⟨h1,h2⟩,h3⟩;refine⟨h3 x (by simp),h2,λy hy h=>?_⟩;rcases Jq.1 h with h|h
   .exact h3 y (by simp[hy]) h
   .rw[Jt] at h;exact h1 (h▸hy)
theorem lk(l:List Vl):dup [] l=false↔l.Nodup:=by rw[tM];simp
def Ordered(d:List Vl):Prop:=∀(i j:Nat) (h:j<d.length) (hij:i<j),¬ord d[j] (d[i]'(by omega))<0
theorem EV{d l:List Vl}(h:d.Perm l):dup [] d=dup [] l:=by
 rw[KM,<-Bool.not_eq_false,<-Bool.not_eq_false,lk,lk,h.nodup_iff]
theorem CG{d:List Vl}{i:Nat}(h:i+1<d.length)(hs:(d[i]'(by omega)).same d[i+1]=true):dup [] d=true:=by
 rw[<-Bool.not_eq_false,lk];intro hn;rw[dV] at hs;unfold List.Nodup at hn;rw[Ld] at hn;exact hn i (i+1) (by omega) h (by omega) hs
theorem EU{d:List Vl}(hd:∀v∈d,v.may=true)(ho:Ordered d)(hs:∀(i:Nat) (h:i+1<d.length),(d[i]'(by omega)).same d[i+1]=false):dup [] d=false:=by
 rw[lk];unfold List.Nodup;rw[Ld];intro i j hi hj hij e;have m1:=hd _ (Jv hi);have m2:=hd (d[i+1]'(by omega)) (Jv _);have hne:=hs i (by omega);have h1:=ho i (i+1) (by omega) (by omega);have f1:=il _ _ m1 m2;have h0:ord d[i] (d[i+1]'(by omega))=0:=by
  by_cases hj1:j=i+1
  .subst hj1;exact(jG _ _ m1 m2).2 e
  .have h2:=ho (i+1) j hj (by omega);rw[<-e] at h2;omega
 have h3:=(jG _ _ m1 m2).1 h0;rw[<-Bool.not_eq_true,dV] at hne;exact hne h3
end Ow
section
open Go.RowKit Js
structure cZ (w w':World):Prop where
 below:Below w.heap.size w w'
 drawn:w.drawn<=w'.drawn
section
variable {w w1 w2:World}
theorem cZ.refl(w:World):cZ w w:=⟨Ji _ _,Jh _⟩
theorem cZ.trans(h:cZ w w1)(k:cZ w1 w2):cZ w w2:=⟨h.below.trans (k.below.mono h.below.size),JA h.drawn k.drawn⟩
theorem cZ.alloc(h:cZ w w1)(o:Obj):cZ w (w1.alloc o):=⟨h.below.alloc h.below.size o,h.drawn⟩
theorem cZ.drew(h:cZ w w1):cZ w w1.drew:=⟨h.below.drew,Mi h.drawn⟩
theorem cZ.grow(h:cZ w w1):∃q os,w1=Go.Sort.grow (w.drewN q) os:=by
 refine⟨w1.drawn-w.drawn,w1.heap.extract w.heap.size w1.heap.size,?_⟩;obtain⟨hb,hd⟩:=h;obtain⟨heap',tape',drawn',os',output'⟩:=w1;have e1:os'=w.os:=hb.os;have e2:tape'=w.tape:=hb.tape;have e3:output'=w.output:=hb.output;have hs:w.heap.size<=heap'.size:=hb.size;have hk:∀k,k<w.heap.size->heap'[k]? =w.heap[k]? :=hb.block;have hd':w.drawn<=drawn':=hd;subst e1 e2 e3;have eh:heap'=w.heap++heap'.extract w.heap.size heap'.size:=by
  apply Array.ext_getElem?;intro k;by_cases hl:k<w.heap.size
  .rw[N6 hl];exact hk k hl
  .rw[MZ (by omega),Array.getElem?_extract];by_cases hl2:k<heap'.size
   .rw[Jo (by omega)];congr 1;omega
   .rw[Jj (by omega),Ll (by omega)]
 simp only[Go.Sort.grow,World.drewN];have ed:drawn'=w.drawn+(drawn'-w.drawn):=by omega
 congr 1
end
theorem IQ(neg:Bool)(ds:Jd)(x:Int)(w:World):
  Calls Tryz.prog 73 #[.agg #[.bool neg,.string ⟨ds.toArray⟩,.int .i64 x]] w λe w'=>e=.returned (.int .i64 (Nm.sign ⟨neg,ds,x⟩))/\cZ w w':=by
 cases ds with
 |nil=>
  go_enter Tryz.func73,Tryz.ntmps73
  go_wp2
  go_ret;exact⟨rfl,(cZ.refl _).alloc _⟩
 |cons c r=>
  cases neg;all_goals
   go_enter Tryz.func73,Tryz.ntmps73
   go_wp2
   go_ret;exact⟨rfl,(cZ.refl _).alloc _⟩
theorem tK(na:Bool)(da:Jd)(xa:Int)(nb:Bool)(db:Jd)(xb:Int)(w:World)(ha:Nm.Fair ⟨na,da,xa⟩)(hb:Nm.Fair ⟨nb,db,xb⟩):
  Calls Tryz.prog 74 #[.agg #[.bool na,.string ⟨da.toArray⟩,.int .i64 xa],.agg #[.bool nb,.string ⟨db.toArray⟩,.int .i64 xb]] w λe w'=>e=.returned (.int .i64 (Nm.aK ⟨na,da,xa⟩ ⟨nb,db,xb⟩))/\cZ w w':=by
 obtain⟨ha1,ha2,ha3⟩:=ha;obtain⟨hb1,hb2,hb3⟩:=hb;simp only at ha1 ha2 ha3 hb1 hb2 hb3;go_enter Tryz.func74,Tryz.ntmps74;go_wp2_with fail;refine(Tryz.cmp_Compare_int _ _ _).mono ?_;rintro e w' ⟨rfl,rfl⟩;generalize hc:Lib.compareInt (↑da.length+xa) (↑db.length+xb)=c;have HC:=Jf hc;clear hc;by_cases h0:c=0
 .subst h0;go_wp2_with fail;refine(Tryz.strings_Compare _ _ _).mono ?_;rintro e w' ⟨rfl,rfl⟩
  go_wp2
  go_ret;refine⟨?_,((cZ.refl _).alloc _).alloc _⟩;simp[Nm.aK,HC.out]
 .have h1:(c==0)=false:=by simpa using h0
  have h2:(c !=0)=true:=by simpa using h0
  have H0:=Jf h0;clear h0
  go_wp2
  go_ret;refine⟨?_,((cZ.refl _).alloc _).alloc _⟩;simp[Nm.aK,HC.out,H0.out]
def iK(w:World)(na:Bool)(da:Jd)(xa:Int)(nb:Bool)(db:Jd)(xb:Int)(w':World):Prop:=
 (w'.cell? ⟨w.heap.size,0,none⟩=some (.bool na)/\w'.cell? ⟨w.heap.size,1,none⟩=some (.string ⟨da.toArray⟩)/\w'.cell? ⟨w.heap.size,2,none⟩=some (.int .i64 xa))/\
  (w'.cell? ⟨w.heap.size+1,0,none⟩=some (.bool nb)/\w'.cell? ⟨w.heap.size+1,1,none⟩=some (.string ⟨db.toArray⟩)/\w'.cell? ⟨w.heap.size+1,2,none⟩=some (.int .i64 xb))/\cZ w w'/\w.heap.size+2<=w'.heap.size
theorem iK.keep{w:World}{na:Bool}{da:Jd}{xa:Int}{nb:Bool}{db:Jd}{xb:Int}{W w1:World}(h:iK w na da xa nb db xb W)(hb:cZ W w1):iK w na da xa nb db xb w1:=by
 obtain⟨h1,h2,h3,h4⟩:=h;exact⟨eT.keep h1 hb.below (by omega),eT.keep h2 hb.below (by omega),h3.trans hb,by have:=hb.below.size;omega⟩
theorem iK.start(w:World)(na:Bool)(da:Jd)(xa:Int)(nb:Bool)(db:Jd)(xb:Int)(t:TypeId):
  iK w na da xa nb db xb ((w.alloc (.cells #[na,da,.int .i64 xa] t)).alloc (.cells #[nb,db,.int .i64 xb] t)).drew:=by
 refine⟨⟨?_,?_,?_⟩,⟨?_,?_,?_⟩,(((cZ.refl _).alloc _).alloc _).drew,by simp⟩<;>simp
theorem J2(na:Bool)(da:Jd)(xa:Int)(nb:Bool)(db:Jd)(xb:Int)(w:World)(ha:Nm.Fair ⟨na,da,xa⟩)(hb:Nm.Fair ⟨nb,db,xb⟩):
  Calls Tryz.prog 40 #[.agg #[.bool na,.string ⟨da.toArray⟩,.int .i64 xa],.agg #[.bool nb,.string ⟨db.toArray⟩,.int .i64 xb]] w λe w'=>e=.returned (.int .i64 (Nm.cmp ⟨na,da,xa⟩ ⟨nb,db,xb⟩))/\cZ w w':=by
 have HA:=Jf ha;have HB:=Jf hb;clear ha hb;go_enter Tryz.func40,Tryz.ntmps40;go_wp2_with fail
 go_region_held3 (λw'=>(w'.cell? ⟨w.heap.size,0,none⟩=some (.bool na)/\w'.cell? ⟨w.heap.size,1,none⟩=some (.string ⟨da.toArray⟩)/\w'.cell? ⟨w.heap.size,2,none⟩=some (.int .i64 xa))/\
  (w'.cell? ⟨w.heap.size+1,0,none⟩=some (.bool nb)/\w'.cell? ⟨w.heap.size+1,1,none⟩=some (.string ⟨db.toArray⟩)/\w'.cell? ⟨w.heap.size+1,2,none⟩=some (.int .i64 xb))/\cZ w w'/\w.heap.size+2<=w'.heap.size)
  (first|exact hs|exact iK.start w na da xa nb db xb _)
  (first|(go_at_call 73;refine(IQ _ _ _ _).mono ?_;rintro e w' ⟨rfl,hb⟩;have hs:=iK.keep (w:=w) (na:=na) (da:=da) (xa:=xa) (nb:=nb) (db:=db) (xb:=xb) (by first|exact hs|exact iK.start w na da xa nb db xb _) hb;clear hb)|(go_at_call 72;refine(Tryz.cmp_Compare_int _ _ _).mono ?_;rintro e w' ⟨rfl,rfl⟩))
 obtain⟨⟨a1,a2,a3⟩,⟨b1,b2,b3⟩,hbl,hsz⟩:=hs;generalize hc:Lib.compareInt (Nm.sign ⟨na,da,xa⟩) (Nm.sign ⟨nb,db,xb⟩)=c;have HC:=Jf hc;have HBL:=Jf hbl;clear hc hbl;by_cases h0:c=0
 .subst h0;cases na
  .go_wp2_with fail;refine(tK _ _ _ _ _ _ _ HA.out HB.out).mono ?_;rintro e w2 ⟨rfl,hb2⟩
   go_wp2
   go_ret;refine⟨?_,HBL.out.trans hb2⟩;simp[Nm.cmp,HC.out]
  .go_wp2_with fail;refine(tK _ _ _ _ _ _ _ HB.out HA.out).mono ?_;rintro e w2 ⟨rfl,hb2⟩
   go_wp2
   go_ret;refine⟨?_,HBL.out.trans hb2⟩;simp[Nm.cmp,HC.out]
 .have h1:(c==0)=false:=by simpa using h0
  have h2:(c !=0)=true:=by simpa using h0
  have H0:=Jf h0;clear h0
  go_wp2
  go_ret;refine⟨?_,HBL.out⟩;simp[Nm.cmp,HC.out,H0.out]
theorem yt(b:Bool)(w:World):Calls Tryz.prog 107 #[.bool b] w λe w'=>e=.returned (.int .i64 (Ow.iw b))/\w'=w:=by
 cases b;all_goals
  go_enter Tryz.func107,Tryz.ntmps107
  go_wp2
  go_ret;exact⟨rfl,rfl⟩
def Cp(w:World)(l l':List Vl)(i:Value)(wr:World):Prop:=
 ∃j:Nat,j<=l.length/\j<=l'.length/\i=.int .i64 j/\Ow.jm l l'=Ow.jm (l.drop j) (l'.drop j)/\cZ w wr
theorem uQ(l l':List Vl)(A A':Option Addr)(e e':Nat)(w:World)(he:l.length<=e)(he':l'.length<=e')(hm:e<=maxLen)(hm':e'<=maxLen)(hs:SlL w.cell? A l)(hs':SlL w.cell? A' l')
  (HC:∀v∈l,∀v'∈l',∀x x' w,v.In w.cell? x->v'.In w.cell? x'->Calls Tryz.prog 80 #[x,x'] w λe w'=>e=.returned (.int .i64 (Ow.ord v v'))/\cZ w w'):
  Calls Tryz.prog 108 #[.slice A l.length e,.slice A' l'.length e',.func (.func 80) #[] #[]] w λe w'=>e=.returned (.int .i64 (Ow.jm l l'))/\cZ w w':=by
 unfold maxLen at hm hm';have HS:=Jf hs;have HS':=Jf hs';have HCC:=Jf HC;clear hs hs' HC;go_enter Tryz.func108,Tryz.ntmps108;go_wp2_with fail
 go_loopw [13] (Cp w l l') (λi _=>l.length-(intOf i).toNat)
 case atStart=>exact⟨0,by omega,by omega,rfl,rfl,cZ.refl _⟩
 case round=>
  obtain⟨j,hj,hj',rfl,hsm,hW⟩:=hrel;have HSM:=Jf hsm;have HW:=Jf hW;clear hsm;by_cases hlt:j<l.length
  .obtain⟨g,o,y,rfl,hy,hc⟩:=HS.out j _ (Jg hlt);obtain⟨k1,b1,n1,g1,x1,s1,A1,l1,p1,B1,m1,d1,rfl⟩:=In.cells hy;by_cases hlt':j<l'.length
   .obtain⟨g',o',y',rfl,hy',hc'⟩:=HS'.out j _ (Jg hlt');obtain⟨k2,b2,n2,g2,x2,s2,A2,l2,p2,B2,m2,d2,rfl⟩:=In.cells hy';have hle:Cl.le w.cell? wr.cell?:=aa hW.below;obtain⟨e0,e1,e2,e3,e4,e5,e6,e7⟩:=(hc.keep hle).eight;obtain⟨f0,f1,f2,f3,f4,f5,f6,f7⟩:=(hc'.keep hle).eight;have hgl:g'<wr.heap.size:=Jn wr _ f0;have hle2:=(hle.trans (aT wr (.cells #[.int .i64 k1,b1,n1,g1,.int .i64 x1,s1,.slice A1 l1 p1,.slice B1 m1 d1] 31))).trans (aT _ (.cells #[.int .i64 k2,b2,n2,g2,.int .i64 x2,s2,.slice A2 l2 p2,.slice B2 m2 d2] 31));have HY:=Jf (In.keep hle2 _ _ hy);have HY':=Jf (In.keep hle2 _ _ hy');have HSTEP:=Jf (show Ow.jm (l.drop j) (l'.drop j)=if Ow.ord l[j] l'[j]≠0 then Ow.ord l[j] l'[j] else Ow.jm (l.drop (j+1)) (l'.drop (j+1)) by
     rw[JO hlt,JO hlt'];simp only[Ow.jm])
    have HCALL:=Jf (HCC.out l[j] (Jv _) l'[j] (Jv _));have HG:=Jf ((hW.alloc (.cells #[.int .i64 k1,b1,n1,g1,.int .i64 x1,s1,.slice A1 l1 p1,.slice B1 m1 d1] 31)).alloc (.cells #[.int .i64 k2,b2,n2,g2,.int .i64 x2,s2,.slice A2 l2 p2,.slice B2 m2 d2] 31));clear hc hc' hy hy' hle hle2 hW;generalize Ow.ord l[j] l'[j]=q at HSTEP HCALL;go_wp2_with fail;refine(HCALL.out _ _ _ HY.out HY'.out).mono ?_;rintro e' w2 ⟨rfl,hb2⟩;have HG2:=Jf (HG.out.trans hb2);clear hb2;by_cases h0:q=0
    .subst h0;go_wp2_with fail;go_roundw;case rel=>exact⟨j+1,by omega,by omega,by go_num,by rw[HSM.out,HSTEP.out];rfl,HG2.out⟩
     case measure=>simp[intOf];omega
    .have h1:(q==0)=false:=by simpa using h0
     have h2:(q !=0)=true:=by simpa using h0
     have H0:=Jf h0;clear h0;go_wp2_with fail;go_ret;exact⟨by rw[HSM.out,HSTEP.out,Jo H0.out];rfl,HG2.out⟩
   .have hge:l'.length<=j:=by omega
    have hle:Cl.le w.cell? wr.cell?:=aa hW.below;obtain⟨e0,e1,e2,e3,e4,e5,e6,e7⟩:=(hc.keep hle).eight;have HE:=Jf (show Ow.jm (l.drop j) (l'.drop j)=1 by
     rw[JO hlt,Kj hge];simp only[Ow.jm])
    have HG:=Jf (hW.alloc (.cells #[.int .i64 k1,b1,n1,g1,.int .i64 x1,s1,.slice A1 l1 p1,.slice B1 m1 d1] 31));clear hc hy hle hW;go_wp2_with fail;go_ret;exact⟨by rw[HSM.out,HE.out];rfl,HG.out⟩
  .obtain rfl:j=l.length:=by omega
   clear hW;by_cases hlt':l.length<l'.length
   .have HE:=Jf (show Ow.jm (l.drop l.length) (l'.drop l.length)= -1 by
     rw[KR,JO hlt'];simp only[Ow.jm])
    go_wp2_with fail;go_ret;exact⟨by rw[HSM.out,HE.out];rfl,HW.out⟩
   .have HE:=Jf (show Ow.jm (l.drop l.length) (l'.drop l.length)=0 by
     rw[KR,Kj (by omega)];simp only[Ow.jm])
    go_wp2_with fail;go_ret;exact⟨by rw[HSM.out,HE.out];rfl,HW.out⟩
def zj(w:World)(l l':List Js.Mem)(i:Value)(wr:World):Prop:=
 ∃j:Nat,j<=l.length/\j<=l'.length/\i=.int .i64 j/\Ow.jn l l'=Ow.jn (l.drop j) (l'.drop j)/\cZ w wr
theorem oB(p p':Js.Mem)(k1:Int)(b1 n1:Bool)(g1:Jd)(x1:Int)(s1:Jd)(A1:Option Addr)(l1 p1:Nat)(B1:Option Addr)(m1 d1:Nat)(k2:Int)(b2 n2:Bool)(g2:Jd)(x2:Int)(s2:Jd)(A2:Option Addr)(l2 p2:Nat)(B2:Option Addr)(m2 d2:Nat)(w:World)
  (hx:p.2.In w.cell? (vlV k1 b1 n1 g1 x1 s1 (.slice A1 l1 p1) (.slice B1 m1 d1))) (hx':p'.2.In w.cell? (vlV k2 b2 n2 g2 x2 s2 (.slice A2 l2 p2) (.slice B2 m2 d2)))
  (HC:∀x x' w,p.2.In w.cell? x->p'.2.In w.cell? x'->Calls Tryz.prog 80 #[x,x'] w λe w'=>e=.returned (.int .i64 (Ow.ord p.2 p'.2))/\cZ w w'):
  Calls Tryz.prog 110 #[.agg #[.string ⟨p.1.toArray⟩,.int .i64 k1,.bool b1,.bool n1,.string ⟨g1.toArray⟩,.int .i64 x1,.string ⟨s1.toArray⟩,.slice A1 l1 p1,.slice B1 m1 d1],.agg #[.string ⟨p'.1.toArray⟩,.int .i64 k2,.bool b2,.bool n2,.string ⟨g2.toArray⟩,.int .i64 x2,.string ⟨s2.toArray⟩,.slice A2 l2 p2,.slice B2 m2 d2]] w
   λe w'=>e=.returned (.int .i64 (Ow.tp p p'))/\cZ w w':=by
 obtain⟨key,v⟩:=p;obtain⟨key',v'⟩:=p';simp only at hx hx' HC;have hle2:=(aT w (.cells #[key,.int .i64 k1,b1,n1,g1,.int .i64 x1,s1,.slice A1 l1 p1,.slice B1 m1 d1] 95)).trans (aT _ (.cells #[key',.int .i64 k2,b2,n2,g2,.int .i64 x2,s2,.slice A2 l2 p2,.slice B2 m2 d2] 95));have HY:=Jf (In.keep hle2 _ _ hx);have HY':=Jf (In.keep hle2 _ _ hx');have HCC:=Jf HC;have HSC:=Jf (λ(W':World)=>Tryz.strings_Compare ⟨key.toArray⟩ ⟨key'.toArray⟩ W');have HP:=Jf (Ow.fN key v key' v');have HG:=Jf (((cZ.refl w).alloc (.cells #[key,.int .i64 k1,b1,n1,g1,.int .i64 x1,s1,.slice A1 l1 p1,.slice B1 m1 d1] 95)).alloc (.cells #[key',.int .i64 k2,b2,n2,g2,.int .i64 x2,s2,.slice A2 l2 p2,.slice B2 m2 d2] 95));clear HC hx hx' hle2;unfold ByteArray.data at HSC;simp only at HSC;obtain⟨c,hc⟩:∃c,Lib.compareBytes key key'=c:=⟨_,rfl⟩;rw[hc] at HSC HP;clear hc;go_enter Tryz.func110,Tryz.ntmps110;go_wp2_with fail;refine(HSC.out _).mono ?_;rintro e1 w1 ⟨rfl,rfl⟩;by_cases h0:c=0
 .subst h0;go_wp2_with fail;refine(HCC.out _ _ _ HY.out HY'.out).mono ?_;rintro e' w2 ⟨rfl,hb2⟩;have hg:=HG.out.trans hb2;go_wp2_with fail;go_ret;exact⟨by rw[HP.out];rfl,hg⟩
 .have h1:(c==0)=false:=by simpa using h0
  have h2:(c !=0)=true:=by simpa using h0
  have H0:=Jf h0;clear h0;go_wp2_with fail;go_ret;exact⟨by rw[HP.out,Jo H0.out];rfl,HG.out⟩
theorem uR(l l':List Js.Mem)(A A':Option Addr)(e e':Nat)(w:World)(he:l.length<=e)(he':l'.length<=e')(hm:e<=maxLen)(hm':e'<=maxLen)(hs:SlM w.cell? A l)(hs':SlM w.cell? A' l')
  (HC:∀v∈l,∀v'∈l',∀x x' w,v.2.In w.cell? x->v'.2.In w.cell? x'->Calls Tryz.prog 80 #[x,x'] w λe w'=>e=.returned (.int .i64 (Ow.ord v.2 v'.2))/\cZ w w'):
  Calls Tryz.prog 109 #[.slice A l.length e,.slice A' l'.length e',.func (.func 110) #[] #[]] w λe w'=>e=.returned (.int .i64 (Ow.jn l l'))/\cZ w w':=by
 unfold maxLen at hm hm';have HS:=Jf hs;have HS':=Jf hs';have HCC:=Jf HC;clear hs hs' HC;go_enter Tryz.func109,Tryz.ntmps109;go_wp2_with fail
 go_loopw [13] (zj w l l') (λi _=>l.length-(intOf i).toNat)
 case atStart=>exact⟨0,by omega,by omega,rfl,rfl,cZ.refl _⟩
 case round=>
  obtain⟨j,hj,hj',rfl,hsm,hW⟩:=hrel;have HSM:=Jf hsm;have HW:=Jf hW;clear hsm;by_cases hlt:j<l.length
  .obtain⟨g,o,y,rfl,hy,hk,hc⟩:=HS.out j _ (Jg hlt);obtain⟨k1,b1,n1,g1,x1,s1,A1,l1,p1,B1,m1,d1,rfl⟩:=In.cells hy;by_cases hlt':j<l'.length
   .obtain⟨g',o',y',rfl,hy',hk',hc'⟩:=HS'.out j _ (Jg hlt');obtain⟨k2,b2,n2,g2,x2,s2,A2,l2,p2,B2,m2,d2,rfl⟩:=In.cells hy';have hle:Cl.le w.cell? wr.cell?:=aa hW.below;obtain⟨e0,e1,e2,e3,e4,e5,e6,e7⟩:=(hc.keep hle).eight;have ek:=hle _ _ hk;have fk:=hle _ _ hk';obtain⟨f0,f1,f2,f3,f4,f5,f6,f7⟩:=(hc'.keep hle).eight;have hgl:g'<wr.heap.size:=Jn wr _ f0;have hle2:=(hle.trans (aT wr (.cells #[l[j].1,.int .i64 k1,b1,n1,g1,.int .i64 x1,s1,.slice A1 l1 p1,.slice B1 m1 d1] 95))).trans (aT _ (.cells #[l'[j].1,.int .i64 k2,b2,n2,g2,.int .i64 x2,s2,.slice A2 l2 p2,.slice B2 m2 d2] 95));have HY:=Jf (In.keep hle2 _ _ hy);have HY':=Jf (In.keep hle2 _ _ hy');have HSTEP:=Jf (show Ow.jn (l.drop j) (l'.drop j)=if Ow.tp l[j] l'[j]≠0 then Ow.tp l[j] l'[j] else Ow.jn (l.drop (j+1)) (l'.drop (j+1)) by
     rw[JO hlt,JO hlt'];simp only[Ow.jn])
    have HCALL:=Jf (λw=>oB (l[j]'hlt) (l'[j]'hlt') k1 b1 n1 g1 x1 s1 A1 l1 p1 B1 m1 d1 k2 b2 n2 g2 x2 s2 A2 l2 p2 B2 m2 d2 w);have HCA:=Jf (HCC.out (l[j]'hlt) (Jv hlt) (l'[j]'hlt') (Jv hlt'));have HG:=Jf ((hW.alloc (.cells #[l[j].1,.int .i64 k1,b1,n1,g1,.int .i64 x1,s1,.slice A1 l1 p1,.slice B1 m1 d1] 95)).alloc (.cells #[l'[j].1,.int .i64 k2,b2,n2,g2,.int .i64 x2,s2,.slice A2 l2 p2,.slice B2 m2 d2] 95));clear hc hc' hy hy' hk hk' hle hle2 hW;generalize Ow.tp l[j] l'[j]=q at HSTEP HCALL;generalize l[j].1=key at*
    generalize l'[j].1=key' at*
    go_wp2_with fail;refine(HCALL.out _ HY.out HY'.out HCA.out).mono ?_;rintro e' w2 ⟨rfl,hb2⟩;have HG2:=Jf (HG.out.trans hb2);clear hb2;by_cases h0:q=0
    .subst h0;go_wp2_with fail;go_roundw;case rel=>exact⟨j+1,by omega,by omega,by go_num,by rw[HSM.out,HSTEP.out];rfl,HG2.out⟩
     case measure=>simp[intOf];omega
    .have h1:(q==0)=false:=by simpa using h0
     have h2:(q !=0)=true:=by simpa using h0
     have H0:=Jf h0;clear h0;go_wp2_with fail;go_ret;exact⟨by rw[HSM.out,HSTEP.out,Jo H0.out];rfl,HG2.out⟩
   .have hge:l'.length<=j:=by omega
    have hle:Cl.le w.cell? wr.cell?:=aa hW.below;obtain⟨e0,e1,e2,e3,e4,e5,e6,e7⟩:=(hc.keep hle).eight;have ek:=hle _ _ hk;have HE:=Jf (show Ow.jn (l.drop j) (l'.drop j)=1 by
     rw[JO hlt,Kj hge];simp only[Ow.jn])
    have HG:=Jf (hW.alloc (.cells #[l[j].1,.int .i64 k1,b1,n1,g1,.int .i64 x1,s1,.slice A1 l1 p1,.slice B1 m1 d1] 95));clear hc hy hk hle hW;generalize l[j].1=key at*
    go_wp2_with fail;go_ret;exact⟨by rw[HSM.out,HE.out];rfl,HG.out⟩
  .obtain rfl:j=l.length:=by omega
   clear hW;by_cases hlt':l.length<l'.length
   .have HE:=Jf (show Ow.jn (l.drop l.length) (l'.drop l.length)= -1 by
     rw[KR,JO hlt'];simp only[Ow.jn])
    go_wp2_with fail;go_ret;exact⟨by rw[HSM.out,HE.out];rfl,HW.out⟩
   .have HE:=Jf (show Ow.jn (l.drop l.length) (l'.drop l.length)=0 by
     rw[KR,Kj (by omega)];simp only[Ow.jn])
    go_wp2_with fail;go_ret;exact⟨by rw[HSM.out,HE.out];rfl,HW.out⟩
theorem Dz(v:Vl):∀(v':Vl) (x x':Value) (w:World),v.may=true->v'.may=true->v.In w.cell? x->v'.In w.cell? x'->
  Calls Tryz.prog 80 #[x,x'] w λe w'=>e=.returned (.int .i64 (Ow.ord v v'))/\cZ w w':=by
 induction v using Vl.ind with
 |h k b n s l m hl hm=>
 rintro⟨k',b',n',s',l',m'⟩ x x' w hv hv' hx hx';obtain⟨A,e,B,d,rfl,q1,q2,q3,q4,q5,q6⟩:=In.form hx;obtain⟨A',e',B',d',rfl,q1',q2',q3',q4',q5',q6'⟩:=In.form hx';obtain⟨o0,o1,o2,o3,o4,o5,o6,o7,o8,o9,o10,o11⟩:=au hv;obtain⟨r0,r1,r2,r3,r4,r5,r6,r7,r8,r9,r10,r11⟩:=au hv';obtain⟨neg,dg,ex⟩:=n;obtain⟨neg',dg',ex'⟩:=n';have HL:=Jf hl;have HM:=Jf hm;have HO:=Jf (Ow.mz k b ⟨neg,dg,ex⟩ s l m k' b' ⟨neg',dg',ex'⟩ s' l' m');have H5:=Jf (show SlL w.cell? A l from q5);have H6:=Jf (show SlM w.cell? B m from q6);have H5':=Jf (show SlL w.cell? A' l' from q5');have H6':=Jf (show SlM w.cell? B' m' from q6');have HB:=Jf (((cZ.refl w).alloc (.cells #[.int .i64 k,b,neg,dg,.int .i64 ex,s,.slice A l.length e,.slice B m.length d] 31)).alloc (.cells #[.int .i64 k',b',neg',dg',.int .i64 ex',s',.slice A' l'.length e',.slice B' m'.length d'] 31));have HN:=Jf (bF o7).fair;have HN':=Jf (bF r7).fair;have HEL:=Jf (λW hs hs'=>uQ l l' A A' e e' W q1 q1' q2 q2' hs hs' (λv hv v' hv' x x' w hx hx'=>HL.out v hv v' x x' w ((ba l).1 o9 v hv) ((ba l').1 r9 v' hv') hx hx'));have HEM:=Jf (λW hs hs'=>uR m m' B B' d d' W q3 q3' q4 q4' hs hs' (λv hv v' hv' x x' w hx hx'=>HM.out v hv v'.2 x x' w ((br m).1 o10 v hv).2 ((br m').1 r10 v' hv').2 hx hx'));have K1:=Jf (H5.out.keep (aa HB.out.below));have K2:=Jf (H5'.out.keep (aa HB.out.below));have K3:=Jf (H6.out.keep (aa HB.out.below));have K4:=Jf (H6'.out.keep (aa HB.out.below));clear hl hm hx hx' q5 q6 q5' q6' hv hv' o2 o3 o4 o5 o6 o7 o8 o9 o10 o11 r2 r3 r4 r5 r6 r7 r8 r9 r10 r11 HL HM H5 H6 H5' H6';unfold maxLen at q2 q2' q4 q4';by_cases hk:k=k'
 .subst hk;have hkk:k=0\/k=1\/k=2\/k=3\/k=4\/k=5:=by omega
  rcases hkk with rfl|rfl|rfl|rfl|rfl|rfl
  .go_enter Tryz.func80,Tryz.ntmps80;go_wp2_with fail;go_ret;exact⟨by rw[HO.out];rfl,HB.out⟩
  .have HO2:=Jf (show Ow.ord (.mk 1 b ⟨neg,dg,ex⟩ s l m) (.mk 1 b' ⟨neg',dg',ex'⟩ s' l' m')=Ow.iw b-Ow.iw b' by rw[HO.out];rfl);have HR:=Jf (λW=>yt b W);have HR':=Jf (λW=>yt b' W);have hr1:0<=Ow.iw b/\Ow.iw b<=1:=by cases b<;>decide
   have hr2:0<=Ow.iw b'/\Ow.iw b'<=1:=by cases b'<;>decide
   have HBA:=Jf ((Blk.new w 31 #[.int .i64 1,b,neg,dg,.int .i64 ex,s,.slice A l.length e,.slice B m.length d]).alloc (.cells #[.int .i64 1,b',neg',dg',.int .i64 ex',s',.slice A' l'.length e',.slice B' m'.length d'] 31));have HBB:=Jf (Blk.cW w (.cells #[.int .i64 1,b,neg,dg,.int .i64 ex,s,.slice A l.length e,.slice B m.length d] 31) 31 #[.int .i64 1,b',neg',dg',.int .i64 ex',s',.slice A' l'.length e',.slice B' m'.length d']);clear HO;generalize Ow.iw b=r at*
   generalize Ow.iw b'=r' at*
   obtain⟨hr3,hr4⟩:=hr1;obtain⟨hr5,hr6⟩:=hr2;have HWR:=Jf (show IntKind.i64.wrap (r-r')=r-r' by simp[IntKind.wrap,IntKind.bits,IntKind.signed];omega);go_enter Tryz.func80,Tryz.ntmps80;go_upto_region 5 with(fail);generalize (w.alloc (.cells #[.int .i64 1,b,neg,dg,.int .i64 ex,s,.slice A l.length e,.slice B m.length d] 31)).alloc (.cells #[.int .i64 1,b',neg',dg',.int .i64 ex',s',.slice A' l'.length e',.slice B' m'.length d'] 31)=w0 at*
   have HC:=Jf (λ(W:World) (h:Below w0.heap.size w0 W)=>(show W.cell? ⟨w.heap.size,1,none⟩=some (.bool b)/\w.heap.size<W.heap.size/\W.cell? ⟨w.heap.size+1,1,none⟩=some (.bool b')/\w.heap.size+1<W.heap.size from⟨(HBA.out.on h).cell 1,(HBA.out.on h).lt,(HBB.out.on h).cell 1,(HBB.out.on h).lt⟩));clear HBA HBB;refine JT (S:=λW9=>cZ w0 W9) (by kernel_rfl) (show cZ w0 w0.drew from(cZ.refl _).drew) (λht=>?_);generalize w0.drew=w8 at*
   refine af 0 (.pointer (some ⟨w.heap.size,1,none⟩)) ht ?_ ?_
   .intro W9 hSw;go_simp
   try simp only[ab]
   refine af 1 (.bool b) ht ?_ ?_
   .intro W9 hSw;obtain⟨x1,xl,y1,yl⟩:=HC.out W9 hSw.below;go_simp
   try simp only[ab]
   refine af 3 (.pointer (some ⟨w.heap.size+1,1,none⟩)) ht ?_ ?_
   .intro W9 hSw;go_simp
   try simp only[ab]
   refine af 4 (.bool b') ht ?_ ?_
   .intro W9 hSw;obtain⟨x1,xl,y1,yl⟩:=HC.out W9 hSw.below;go_simp
   try simp only[ab]
   refine bz 2 λK hK=>?_;go_simp;refine(HR.out _).mono ?_;rintro e2 w2 ⟨rfl,rfl⟩;have hs:=ht;clear ht;go_wp2_with fail;refine hK.out _ _ hs (λht=>?_);clear hK K hs;try simp only[ab]
   refine bz 5 λK hK=>?_;go_simp;refine(HR'.out _).mono ?_;rintro e5 w5 ⟨rfl,rfl⟩;have hs:=ht;clear ht;go_wp2_with fail;refine hK.out _ _ hs (λht=>?_);clear hK K hs;try simp only[ab]
   refine af 6 (.int .i64 (r-r')) ht ?_ ?_
   .intro W9 hSw;go_simp;exact HWR.out
   try simp only[ab]
   refine af 7 (.int .i64 (r-r')) ht ?_ ?_
   .intro W9 hSw;go_simp
   try simp only[ab]
   refine Ke (by kernel_rfl) ?_ _;have hfin:=HB.out.trans ht;clear ht;go_wp2_with fail;go_ret;exact⟨by rw[HO2.out];rfl,hfin⟩
  .have HC:=Jf (λW=>J2 neg dg ex neg' dg' ex' W HN.out HN'.out);have HO2:=Jf (show Ow.ord (.mk 2 b ⟨neg,dg,ex⟩ s l m) (.mk 2 b' ⟨neg',dg',ex'⟩ s' l' m')=Nm.cmp ⟨neg,dg,ex⟩ ⟨neg',dg',ex'⟩ by rw[HO.out];rfl);clear HO;generalize Nm.cmp ⟨neg,dg,ex⟩ ⟨neg',dg',ex'⟩=q at HO2 HC;go_enter Tryz.func80,Tryz.ntmps80;go_wp2_with fail;refine(HC.out _).mono ?_;rintro e1 w1 ⟨rfl,hb1⟩;have hb:=HB.out.trans hb1;go_wp2_with fail;go_ret;exact⟨by rw[HO2.out];rfl,hb⟩
  .have HC:=Jf (λ(W':World)=>Tryz.strings_Compare ⟨s.toArray⟩ ⟨s'.toArray⟩ W');have HO2:=Jf (show Ow.ord (.mk 3 b ⟨neg,dg,ex⟩ s l m) (.mk 3 b' ⟨neg',dg',ex'⟩ s' l' m')=Lib.compareBytes s s' by rw[HO.out];rfl);clear HO;unfold ByteArray.data at HC;simp only at HC;generalize Lib.compareBytes s s'=q at HO2 HC;go_enter Tryz.func80,Tryz.ntmps80;go_wp2_with fail;refine(HC.out _).mono ?_;rintro e1 w1 ⟨rfl,rfl⟩;go_wp2_with fail;go_ret;exact⟨by rw[HO2.out];rfl,HB.out⟩
  .have HO2:=Jf (show Ow.ord (.mk 4 b ⟨neg,dg,ex⟩ s l m) (.mk 4 b' ⟨neg',dg',ex'⟩ s' l' m')=Ow.jm l l' by rw[HO.out,Ow.rX];rfl);clear HO;generalize Ow.jm l l'=q at HO2 HEL;go_enter Tryz.func80,Tryz.ntmps80;go_wp2_with fail;refine(HEL.out _ K1.out K2.out).mono ?_;rintro e1 w1 ⟨rfl,hb1⟩;have hb:=HB.out.trans hb1;go_wp2_with fail;go_ret;exact⟨by rw[HO2.out];rfl,hb⟩
  .have HO2:=Jf (show Ow.ord (.mk 5 b ⟨neg,dg,ex⟩ s l m) (.mk 5 b' ⟨neg',dg',ex'⟩ s' l' m')=Ow.jn m m' by rw[HO.out,Ow.rZ];rfl);clear HO;generalize Ow.jn m m'=q at HO2 HEM;go_enter Tryz.func80,Tryz.ntmps80;go_wp2_with fail;refine(HEM.out _ K3.out K4.out).mono ?_;rintro e1 w1 ⟨rfl,hb1⟩;have hb:=HB.out.trans hb1;go_wp2_with fail;go_ret;exact⟨by rw[HO2.out];rfl,hb⟩
 .have t1:(k==k')=false:=by simpa using hk
  have t2:(k !=k')=true:=by simpa using hk
  have HO2:=Jf (show Ow.ord (.mk k b ⟨neg,dg,ex⟩ s l m) (.mk k' b' ⟨neg',dg',ex'⟩ s' l' m')=k-k' by rw[HO.out,Jo hk]);clear hk HO;go_enter Tryz.func80,Tryz.ntmps80;go_wp2_with fail;go_ret;exact⟨by rw[HO2.out]<;>go_num,HB.out⟩
open Go.Sort (SWO HoldsK PermIn SortedIn putRowK putRow mapBlock onCells ahead)
theorem uN(l:List Vl)(A:Option Addr)(c:Nat)(w:World)(h:SlL w.cell? A l)(hn:l.length<=1000000):Calls Tryz.prog 78 #[.slice A l.length c] w λe w'=>∃flat,cK w.cell? l flat/\NewV w l.length flat e w':=by
 cases A with
 |none=>
  have hl:l=[]:=by
   cases l with
   |nil=>rfl
   |cons v r=>obtain⟨g,o,y,h0,_⟩:=h 0 v rfl;cases h0
  subst hl;rw[show([]:List Vl).length=0 from rfl];have hnil:∀W,(binOp .eql 28 (.slice none 0 c) (.slice none 0 0)).run Tryz.prog W=.ok (.bool true) W:=λW=>LP W _ 31 none 0 c 0 0 Tryz.underlying28;have HW:=Jf (show NewV w 0 [] (.returned (.slice none 0 0)) w from⟨none,0,rfl,KT _ _ _ _,Ji _ _⟩);clear h;go_enter Tryz.func78,Tryz.ntmps78;go_wp2_with fail;go_ret;exact⟨[],cK.nil _,HW.out⟩
 |some ad=>
  have hnil:∀W,(binOp .eql 28 (.slice (some ad) l.length c) (.slice none 0 0)).run Tryz.prog W=.ok (.bool false) W:=λW=>LP W _ 31 (some ad) l.length c 0 0 Tryz.underlying28;obtain⟨i0,hi0,hz0,hz1,hz2⟩:=Is;obtain⟨flat,hf,hs⟩:=ED (S:=λ_=>True) (w:=w) (A:=some ad) (m:=l) (h.keep λp u hp=>ah.2 ⟨trivial,hp⟩);have hf':cK w.cell? l flat:=hf.keep (xS _ _);have HF:=Jf hf';have HBE:=Jf ((Ji w.heap.size w).alloc (Jh _) (.cells #[] 31));have HOWE:=Jf (show(w.alloc (.cells #[] 31)).ownsRow w.heap.size 31 8 (.slice (some ⟨w.heap.size,0,none⟩) 0 0) 0 [] from Kv w #[] 0 (Jh _) (by unfold maxLen;omega) rfl);have HS:=Jf (hs.keep HBE.out);have hfl:flat.length=l.length*8:=hf'.1;have hf1:=hf'.2.1;clear h hf hf' hs;go_enter Tryz.func78,Tryz.ntmps78;go_wp2_with (at_builtin;refine bN _ rfl _ _ _ rfl w.heap.size 31 i0 _ 8 112 Tryz.underlying28 hi0 hz0 hz1 hz2 rfl (by omega) (.slice (some ⟨w.heap.size,0,none⟩) 0 0) 0 [] rfl HOWE.out (some ad) l.length c flat rfl hfl HS.out hf1 (by unfold maxLen;omega) (by omega) (by simp) l.length (by omega) ?_;intro A1 c1 w1 hown1 hg1;have HOW1:=Jf (show w1.ownsRow w.heap.size 31 8 (.slice A1 l.length c1) l.length flat from hown1);have HB1:=Jf (HBE.out.grown hg1 HBE.out.size (λb hb=>by have h9:=vH HOWE.out (k:=b);exact Nat.le_of_not_lt (λhlt=>h9 hlt hb.symm)));clear hown1 hg1);go_ret;exact⟨flat,HF.out,A1,c1,rfl,HOW1.out,HB1.out⟩
structure kE (c:Cl) where
 v:Vl
 y:Value
 may:v.may=true
 lies:v.In c y
theorem Dx(c:Cl):(Vl.mk 0 false Nm.Num.zero [] [] []).In c (vlV 0 false false [] 0 [] (.slice none 0 0) (.slice none 0 0)):=by
 simp only[Vl.In];exact⟨none,0,none,0,rfl,Jh _,JE _,Jh _,JE _,λh=>absurd h (O2 _),λh=>absurd h (O2 _)⟩
instance (c:Cl):Inhabited (kE c):=⟨⟨_,_,rfl,Dx c⟩⟩
def cM{c:Cl}(x:kE c):List Value:=x.y.cells.toList
theorem gW{c:Cl}(x:kE c):∃c0 c1 c2 c3 c4 c5 c6 c7,cM x=[c0,c1,c2,c3,c4,c5,c6,c7]/\x.y=.agg #[c0,c1,c2,c3,c4,c5,c6,c7]/\∀u∈cM x,u.oneCell'=true:=by
 obtain⟨v,y,hm,hl⟩:=x;obtain⟨k,b,neg,dg,ex,s,A,n,e,B,m,d,rfl⟩:=In.cells hl;refine⟨_,_,_,_,_,_,_,_,rfl,rfl,λu hu=>?_⟩;exact(qs hl).2 u hu
theorem dY{c:Cl}(x:kE c):(cM x).length=8:=by
 obtain⟨_,_,_,_,_,_,_,_,h,_⟩:=gW x;rw[h];rfl
theorem tN{c:Cl}(x:kE c):Value.agg (cM x).toArray=x.y:=by
 obtain⟨_,_,_,_,_,_,_,_,h,h2,_⟩:=gW x;rw[h,h2]
def zy{c:Cl}(a b:kE c):Int:=Ow.ord a.v b.v
theorem Jc{c:Cl}:SWO (ltOf (zy (c:=c))) where
 irrefl x:=by
  unfold ltOf zy;rw[Ks,(Ow.jG _ _ x.may x.may).2 rfl];omega
 trans x y z h1 h2:=by
  unfold ltOf zy at*
  rw[JF] at*
  have f1:=Ow.il _ _ x.may y.may;have n:=Ow.yk _ _ _ x.may y.may z.may (by omega) (by omega);have hz:=Ow.jG _ _ x.may z.may;by_cases e:Ow.ord x.v z.v=0
  .have e2:=hz.1 e;rw[<-e2] at h2;omega
  .omega
 ntrans x y z h1 h2:=by
  unfold ltOf zy at*
  rw[Ks] at*
  have f1:=Ow.il _ _ x.may y.may;have f2:=Ow.il _ _ y.may z.may;have f3:=Ow.il _ _ x.may z.may;have n:=Ow.yk _ _ _ z.may y.may x.may (by omega) (by omega);omega
theorem GZ{c:Cl}{flat:List Value}{l:List Vl}(hf:cK c l flat)(hm:∀v∈l,v.may=true):∃Z:List (kE c),Z.map (·.v)=l/\flat=Z.flatMap cM:=by
 have h2:∀n,n<=l.length->∃Z:List (kE c),Z.map (·.v)=l.take n/\flat.take (n*8)=Z.flatMap cM:=by
  intro n
  induction n with
  |zero=>intro _;exact⟨[],by simp,by simp⟩
  |succ n ih=>
   intro hn;obtain⟨Z,hZ,hz⟩:=ih (by omega);have hat:l[n]? =some l[n]:=Jg (by omega);obtain⟨y,hy,hc⟩:=hf.2.2 n _ hat;refine⟨Z++[⟨l[n],y,hm _ (Jv _),hy⟩],?_,?_⟩
   .rw[JX,hZ,Jr (by omega)];rfl
   .rw[M0,<-hz,show(n+1)*8=n*8+8 by omega,List.take_add]
    congr 1
    obtain⟨c0,c1,c2,c3,c4,c5,c6,c7,h8,h9,_⟩:=gW (⟨l[n],y,hm _ (Jv _),hy⟩:kE c);simp only at h9;rw[KK,Mp,JK,h8];have hfl:=hf.1;subst h9;apply Lu;intro j;rw[KN];by_cases hj:j<8
    .rw[Jo hj,Kf]
     match j,hj with
     |0,_=>exact hc 0 _ rfl
     |1,_=>exact hc 1 _ rfl
     |2,_=>exact hc 2 _ rfl
     |3,_=>exact hc 3 _ rfl
     |4,_=>exact hc 4 _ rfl
     |5,_=>exact hc 5 _ rfl
     |6,_=>exact hc 6 _ rfl
     |7,_=>exact hc 7 _ rfl
    .rw[Jj hj,Kb (by simp;omega)]
 obtain⟨Z,h3,h4⟩:=h2 l.length (Jh _);refine⟨Z,by rw[h3,JC],?_⟩;rw[<-h4,<-hf.1,JC]
theorem jd{c:Cl}(Z:List (kE c)):(Z.flatMap cM).length=Z.length*8:=by
 induction Z with
 |nil=>rfl
 |cons x Z ih=>rw[KK,Jk,dY,ih,Jl];omega
theorem ll{c:Cl}:∀{Z:List (kE c)} {i:Nat} {x:kE c},Z[i]? =some x->∀q u,(cM x)[q]? =some u->(Z.flatMap cM)[i*8+q]? =some u
 |[],i,x,h,_,_,_=>by simp at h
 |x0::Z,0,x,h,q,u,hu=>by
  simp only[Lh,JM] at h;subst h;have hq:=(Jm.1 hu).1;rw[KK,Lp,JI,JD hq];exact hu
 |x0::Z,i+1,x,h,q,u,hu=>by
  rw[Kr] at h;rw[KK,Jx (by rw[dY];omega),dY,show(i+1)*8+q-8=i*8+q by omega];exact ll h q u hu
theorem vw{c:Cl}(Z:List (kE c)):cK c (Z.map (·.v)) (Z.flatMap cM):=by
 refine⟨by rw[jd,JR],λu hu=>?_,λi v hi=>?_⟩
 .obtain⟨x,_,hx⟩:=KB.1 hu;obtain⟨_,_,_,_,_,_,_,_,_,_,h⟩:=gW x;exact h u hx
 .rw[JZ] at hi;cases hz:Z[i]? with
  |none=>rw[hz] at hi;cases hi
  |some x=>
   rw[hz] at hi;simp only[Kg,JM] at hi;subst hi;exact⟨x.y,x.lies,λj u hj=>ll hz j u (by unfold cM;rw[LO];exact hj)⟩
theorem yn{c:Cl}{w:World}{B g n cp:Nat}{Z:List (kE c)}(h:w.ownsRow B 31 8 (.slice (some ⟨g,0,none⟩) n cp) n (Z.flatMap cM)):HoldsK cM 8 w g 0 Z.toArray:=by
 intro t ht;rw[Sort.size_flatK,Nh] at ht;refine⟨?_,h.frozenAt _⟩;rw[Sort.get_flatK _ _ _ _ (by simpa using ht),JI];have hq:t/8<Z.length:=by omega
 have e1:Z.toArray[t/8]! =Z[t/8]:=by rw[KH Z.toArray _ (by simpa using hq)];simp
 rw[e1];have h9:(cM Z[t/8]).length=8:=dY _;have h6:(cM Z[t/8])[t%8]? =some ((cM Z[t/8])[t%8]!):=by
  rw[KH _ _ (by rw[h9];omega)];exact Jg _
 have h7:=ll (Jg hq) (t%8) _ h6;rw[show t/8*8+t%8=t by omega] at h7;exact ax h t _ h7
theorem xI{c:Cl}{w:World}{B g cp:Nat}{d:List (kE c)}{cur:Array Value}(hH:HoldsK cM 8 w g 0 d.toArray)(hc:w.heap[g]? =some (.cells cur 31 (0,0)))(hs:cur.size=cp*8)(hB:B<=g)(h1:d.length<=cp)(h2:cp<=maxLen):
  w.ownsRow B 31 8 (.slice (some ⟨g,0,none⟩) d.length cp) d.length (d.flatMap cM):=by
 refine⟨jd d,.inr ⟨g,cp,cur,rfl,hB,hc,h1,h2,hs,?_⟩⟩;apply Lu;intro j;by_cases hj:j<d.length*8
 .rw[KN,Jo hj];have hq:j/8<d.length:=by omega
  have h9:(cM d[j/8]).length=8:=dY _;have h8:=hH.cell (i:=j/8) (c:=j%8) (by simpa using hq) (by omega);have e1:d.toArray[j/8]! =d[j/8]:=by rw[KH d.toArray _ (by simpa using hq)];simp
  rw[e1,KH _ _ (by rw[h9];omega),show 0+j/8*8+j%8=j by omega,Ml w g j cur _ (0,0) hc] at h8;have h7:=ll (Jg hq) (j%8) _ (Jg (by rw[h9];omega));rw[show j/8*8+j%8=j by omega] at h7;rw[h7,<-h8.1];simp
 .rw[Kb (by rw[JL];omega),Kb (by rw[jd];omega)]
theorem kU{c:Cl}{w:World}{g n:Nat}{os:Array Obj}(d:Array (kE c)):w.grownBy (sortWorldK cM 8 w g 0 n d os) (some g):=by
 unfold sortWorldK putRowK;refine⟨rfl,rfl,rfl,by simp,λk hk hne=>?_⟩;rw[Mc _ _ (by simpa using hk)];have:g≠k:=λe=>hne (by rw[e]);simp[putRow,mapBlock,KC,this]
theorem we{c:Cl}{w:World}{g n:Nat}{os:Array Obj}{cur:Array Value}{e:TypeId}(d:Array (kE c))(hc:w.heap[g]? =some (.cells cur e (0,0))):∃cur',(sortWorldK cM 8 w g 0 n d os).heap[g]? =some (.cells cur' e (0,0))/\cur'.size=cur.size:=by
 have hg:g<w.heap.size:=(KE.1 hc).1;unfold sortWorldK putRowK;rw[Mc _ _ (by simpa using hg)];refine⟨Sort.putCells id 0 (Sort.flatK cM 8 d) cur,?_,by simp[Sort.putCells]⟩;simp only[putRow,mapBlock,KC,KJ];rw[show(Sort.ahead w n).heap[g]? =some (.cells cur e (0,0)) from hc];rfl
theorem yK{c:Cl}{w:World}{B:Nat}{A:Option Addr}{cp:Nat}{l:List Vl}{flat:List Value}(hc:c.le (w.on (·<B)))(hown:w.ownsRow B 31 8 (.slice A l.length cp) l.length flat)(hf:cK c l flat)(hm:∀v∈l,v.may=true)(hl:l.length<=1000000):
  Calls Tryz.prog 79 #[.slice A l.length cp,.func (.func 80) #[] #[]] w λe w'=>e=.returned (.tuple #[])/\Below B w w'/\∃(d:List Vl) (flat':List Value),d.Perm l/\Ow.Ordered d/\w'.ownsRow B 31 8 (.slice A l.length cp) l.length flat'/\cK c d flat':=by
 obtain⟨Z,hZ,rfl⟩:=GZ hf hm;have hlen:l.length=Z.length:=by rw[<-hZ,JR]
 rw[hlen] at hown hl ⊢;subst hZ;clear hf hm hlen;cases Z with
 |nil=>
  refine(AnyF.slices_SortFunc_none Tryz.sortw A cp _ w).mono ?_;rintro e w' ⟨rfl,rfl⟩;exact⟨rfl,.refl _ _,[],[],List.Perm.refl _,(λi j h _=>absurd h (Kt _)),hown,cK.nil _⟩
 |cons p0 l0=>
  generalize hll:p0::l0=l at*
  have hpos:0<l.length:=by rw[<-hll];simp
  clear hll;have hle:=ai hown;obtain⟨g,rfl,hg1,hg2⟩:∃g,A=some ⟨g,0,none⟩/\B<=g/\g<w.heap.size:=by
   cases A with
   |none=>have:=(hle.2.2.1 rfl).1;omega
   |some ad=>obtain⟨g,rfl,h1,h2⟩:=hle.2.2.2 ad rfl;exact⟨g,rfl,h1,h2⟩
  obtain⟨cur,hcur,hcs⟩:∃cur,w.heap[g]? =some (.cells cur 31 (0,0))/\cur.size=cp*8:=by
   rcases hown.2 with⟨h0,_⟩|⟨g',cap,cur,h1,h2,h3,_,_,h4,_⟩
   .cases h0
   .injection h1 with e1 e2 e3;injection e1 with e1;injection e1 with e1;subst e1 e3;exact⟨cur,h3,h4⟩
  have hH:=yn hown;have hds:l.toArray.size=l.length:=by simp
  have eg:∀args w,(callFunc 80 args).run Tryz.prog w=.ok (.enter 80 args) w:=enters_of Tryz.func80 (by kernel_rfl) rfl;have hcmp:CmpLays Tryz.prog 80 #[] cM 8 (zy (c:=c)) g 0 l.toArray.size w:=by
   intro m os dk _ x y;have hle:c.le (sortWorldK cM 8 w g 0 m dk os).cell?:=λp u hp=>by
    obtain⟨h1,h2⟩:=ah.1 (hc p u hp);have hb:=(Ji B w).grown (kU (w:=w) (g:=g) (n:=m) (os:=os) dk) (by omega) (λk hk=>by cases hk;exact hg1);rw[hb.cell h1];exact h2
   have h:=Dz x.v y.v x.y y.y (sortWorldK cM 8 w g 0 m dk os) x.may y.may (In.keep hle _ _ x.lies) (In.keep hle _ _ y.lies);rw[<-tN x,<-tN y] at h;refine Calls.mono h ?_;rintro e w' ⟨rfl,hg⟩;exact⟨rfl,hg.grow⟩
  have hcon:=AnyQ.slices_SortFunc Tryz.sortw 8 (λw=>by kernel_rfl) (λw=>by kernel_rfl) cM dY (λx v hv=>by obtain⟨_,_,_,_,_,_,_,_,_,_,h⟩:=gW x;exact h v hv) zy Jc 80 #[] g 0 cp l.toArray w eg hcmp hH hg2 (by rw[hds];omega);rw[hds] at hcon;refine Calls.mono (show Calls Tryz.prog 79 _ _ _ from hcon) ?_;rintro e w' ⟨rfl,d',n,os,hp,hs,rfl⟩;have hgr:=kU (w:=w) (g:=g) (n:=n) (os:=os) d';have hd's:d'.size=l.length:=by rw[hp.1,hds]
  have hperm:d'.toList.Perm l:=by
   have h7:=hp.2.2;have e1:d'.extract 0 l.length=d':=by rw[<-hd's];exact M8
   have e2:l.toArray.extract 0 l.length=l.toArray:=by rw[<-hds];exact M8
   rw[e1,e2] at h7;exact h7
  have hH':HoldsK cM 8 (sortWorldK cM 8 w g 0 n d' os) g 0 d':=holdsK_sortWorldK_c cM 8 w g 0 _ d' n os hH hg2 (by rw[hd's,hds]);obtain⟨cur',hcur',hcs'⟩:=we (n:=n) (os:=os) d' hcur;have hdl:d'.toList.length=l.length:=by rw[KV,hd's]
  refine⟨rfl,(Ji B w).grown hgr (by omega) (λk hk=>by cases hk;exact hg1),d'.toList.map (·.v),d'.toList.flatMap cM,hperm.map _,λi j hj hij=>?_,?_,vw _⟩
  .rw[JR] at hj;have h8:=hs i j (JE _) hij (by rw[hdl] at hj;exact hj);have hi':i<d'.size:=by rw[hd's,<-hdl];omega
   have hj':j<d'.size:=by rw[hd's,<-hdl];omega
   rw[KH d' j hj',KH d' i hi'] at h8;unfold ltOf zy at h8;rw[Ks] at h8;simpa using h8
  .have h9:=xI (B:=B) (cp:=cp) (d:=d'.toList) (by simpa using hH') hcur' (hcs'.trans hcs) hg1 (by rw[hdl];exact hle.1) hle.2.1;rw[hdl] at h9;exact h9
def Cu(d:List Vl)(ws:World)(v3:Value)(wr:World):Prop:=
 ∃k:Nat,v3=.int .i64 k/\1<=k/\(k<=d.length\/k=1)/\(∀(i:Nat) (h:i+1<d.length),i+1<k->(d[i]'(by omega)).same d[i+1]=false)/\Below ws.heap.size ws wr
theorem vo(l:List Vl)(A:Option Addr)(c:Nat)(w:World)(h:SlL w.cell? A l)(hm:∀v∈l,v.may=true)(hn:l.length<=1000000):
  Calls Tryz.prog 43 #[.slice A l.length c] w λe w'=>e=.returned (.bool (Ow.dup [] l))/\Below w.heap.size w w':=by
 have HCL:=Jf (uN l A c w h hn);have HM:=Jf hm;clear h hm;go_enter Tryz.func43,Tryz.ntmps43;go_wp2_with fail;refine HCL.out.mono ?_;rintro e1 w1 ⟨flat,hf,A1,c1,rfl,hown,hb1⟩;have hc1:Cl.le w.cell? (w1.on (·<w.heap.size)):=λp u hp=>ah.2 ⟨Jn w p hp,(hb1.cell (Jn w p hp)).trans hp⟩;have HSO:=Jf (yK hc1 hown hf HM.out hn);have HB1:=Jf hb1;clear HCL hf hown hb1 hc1;go_wp2_with fail;refine HSO.out.mono ?_;rintro e2 w2 ⟨rfl,hb2,d,flat',hp,ho,hown,hf⟩;have hb:=HB1.out.trans hb2;have HSL:=Jf (show SlL w2.cell? A1 d from cK.sl (hf.keep (aa hb)) (λg j u _ hu=>hu) hown);have HB:=Jf hb;have HDM:=Jf (λv (hv:v∈d)=>HM.out v (hp.mem_iff.1 hv));have HDU:=Jf (Ow.EV hp);have HON:=Jf (λhs=>Ow.EU HDM.out ho hs);have hdl:l.length=d.length:=hp.length_eq.symm;have hcl:=ai hown;obtain⟨hcl1,hcl2,_⟩:=hcl;rw[hdl] at hcl1 hn ⊢;unfold maxLen at hcl2;clear HSO HB1 hp ho hown hf hb hb2 hdl HM;go_wp2_with fail
 go_loopw [3] (Cu d w2) (λv _=>d.length-(intOf v).toNat)
 case atStart=>exact⟨1,rfl,Jh _,.inr rfl,λi h h1=>by omega,Ji _ _⟩
 case round=>
  obtain⟨k,rfl,hk1,hk2,hk3,hbr⟩:=hrel;obtain⟨wz,hwz⟩:∃W,W=wr:=⟨_,rfl⟩;subst hwz;have HK3:=Jf hk3;have HBR:=Jf hbr;clear hk3 hbr;by_cases hlt:k<d.length
  .have hlt0:k-1<d.length:=by omega
   obtain⟨g,o,y0,rfl,hy0,hc0⟩:=HSL.out (k-1) _ (Jg hlt0);obtain⟨g',o',y1,hgo,hy1,hc1⟩:=HSL.out k _ (Jg hlt);injection hgo with hgo;injection hgo with hg0 ho0;subst hg0 ho0;obtain⟨k1,b1,n1,g1,x1,s1,A2,l1,p1,B1,m1,d1,rfl⟩:=In.cells hy0;obtain⟨k2,b2,n2,g2,x2,s2,A3,l2,p2,B2,m2,d2,rfl⟩:=In.cells hy1;have HC0:=Jf (λ(W:World) (h:Below wz.heap.size wz W)=>(hc0.keep (aa (HBR.out.trans (h.mono HBR.out.size)))).eight);have HC1:=Jf (λ(W:World) (h:Below wz.heap.size wz W)=>(hc1.keep (aa (HBR.out.trans (h.mono HBR.out.size)))).eight);have HSM:=Jf (λ(W:World) (h:Below wz.heap.size wz W)=>sC (d[k-1]'hlt0) (d[k]'hlt) _ _ W (HDM.out _ (Jv _)) (HDM.out _ (Jv _)) (In.keep (aa (HBR.out.trans (h.mono HBR.out.size))) _ _ hy0) (In.keep (aa (HBR.out.trans (h.mono HBR.out.size))) _ _ hy1));have HFO:=Jf (λ(hs:(d[k-1]'hlt0).same (d[k]'hlt)=true)=>Ow.CG (d:=d) (i:=k-1) (by omega) (by
    have e:k-1+1=k:=by omega
    simp only[e];exact hs))
   have HNX:=Jf (λ(hs:(d[k-1]'hlt0).same (d[k]'hlt)=false) (i:Nat) (h:i+1<d.length) (h2:i+1<k+1)=>(show(d[i]'(by omega)).same d[i+1]=false by
    by_cases e:i+1=k
    .subst e;exact hs
    .exact HK3.out i h (by omega)))
   clear hy0 hy1 hc0 hc1;generalize (d[k-1]'hlt0).same (d[k]'hlt)=q at*
   have HKW:=Jf (show IntKind.i64.wrap ((k:Int)-1)=((k-1:Nat):Int) by simp[IntKind.wrap,IntKind.bits,IntKind.signed];omega);generalize k-1=k0 at*
   have hkl:(k0:Int)<(d.length:Int):=by omega
   have hkl1:(k:Int)<(d.length:Int):=by omega
   go_upto_region 6 with(fail);refine JT (S:=λW9=>Below wz.heap.size wz W9) (by kernel_rfl) (show Below wz.heap.size wz wz.drew from below_drewN (Ji _ _) 1) (λht=>?_);generalize wz.drew=w8 at*
   refine af 0 (.slice (some ⟨g,o,none⟩) d.length c1) ht ?_ ?_
   .intro W9 hSw;go_simp
   try simp only[ab]
   refine af 1 (.int .i64 k) ht ?_ ?_
   .intro W9 hSw;go_simp
   try simp only[ab]
   refine af 2 (.int .i64 k0) ht ?_ ?_
   .intro W9 hSw;go_simp;exact HKW.out
   try simp only[ab]
   refine af 3 (.pointer (some ⟨g,o+k0*8,none⟩)) ht ?_ ?_
   .intro W9 hSw;go_simp
   try simp only[ab]
   refine af 4 (.agg #[.int .i64 k1,b1,n1,g1,.int .i64 x1,s1,.slice A2 l1 p1,.slice B1 m1 d1]) ht ?_ ?_
   .intro W9 hSw;obtain⟨z0,z1,z2,z3,z4,z5,z6,z7⟩:=HC0.out W9 hSw;have zl:=Jn _ _ z0;go_simp
   try simp only[ab]
   refine af 5 (.slice (some ⟨g,o,none⟩) d.length c1) ht ?_ ?_
   .intro W9 hSw;go_simp
   try simp only[ab]
   refine af 6 (.int .i64 k) ht ?_ ?_
   .intro W9 hSw;go_simp
   try simp only[ab]
   refine af 7 (.pointer (some ⟨g,o+k*8,none⟩)) ht ?_ ?_
   .intro W9 hSw;go_simp
   try simp only[ab]
   refine af 8 (.agg #[.int .i64 k2,b2,n2,g2,.int .i64 x2,s2,.slice A3 l2 p2,.slice B2 m2 d2]) ht ?_ ?_
   .intro W9 hSw;obtain⟨z0,z1,z2,z3,z4,z5,z6,z7⟩:=HC1.out W9 hSw;have zl:=Jn _ _ z0;go_simp
   try simp only[ab]
   refine bz 9 λK hK=>?_;go_simp;refine(HSM.out _ ht).mono ?_;rintro e9 w9 ⟨rfl,hb9⟩;have hs:=ht.trans (hb9.mono ht.size);clear ht hb9;go_wp2_with fail;refine hK.out _ _ hs (λht=>?_);clear hK K hs;try simp only[ab]
   refine Ke (by kernel_rfl) ?_ _;have HW9:=Jf (HBR.out.trans (ht.mono HBR.out.size));clear ht;cases q with
   |true=>
    have HD:=Jf (HFO.out rfl);go_wp2_with fail;go_ret;exact⟨by rw[<-HDU.out,HD.out];rfl,HB.out.trans (HW9.out.mono HB.out.size)⟩
   |false=>
    have HD:=Jf (HNX.out rfl);go_wp2_with fail;go_roundw;case rel=>exact⟨k+1,by go_num,by omega,.inl (by omega),HD.out,HW9.out⟩
    case measure=>simp[intOf];omega
  .have HD:=Jf (HON.out λi h=>HK3.out i h (by omega));go_wp2_with fail;go_ret;exact⟨by rw[<-HDU.out,HD.out];rfl,HB.out.trans (HBR.out.mono HB.out.size)⟩
theorem sA(s:Jd):∀f pos,Lib.runeCountFrom ⟨s.toArray⟩ f pos=Ow.jP f (s.drop pos)
 |0,_=>rfl
 |f+1,pos=>by
  unfold Lib.runeCountFrom;have hsz:(⟨s.toArray⟩:ByteArray).size=s.length:=by rw[K7]
  by_cases h:pos<s.length
  .rw[Jo (by rw[hsz];exact h)];have hd:Utf8.decode ⟨s.toArray⟩ pos=Lib.decodeL (s.drop pos):=(Lib.decodeL_drop ⟨s.toArray⟩ pos).symm;have hl:1<=(s.drop pos).length:=by rw[JJ];omega
   have hw:(Lib.decodeL (s.drop pos)).2=max (St.utf8 (s.drop pos)) 1:=by
    rw[Lib.decodeL_N];have hg:∀k,((s.drop pos).getD k 0).toNat=St.g (s.drop pos) k:=λk=>rfl;rw[hg 0,hg 1,hg 2,hg 3,St.zE _ _ _ _ _ hl (St.CS _ 0) (St.CS _ 1) (St.CS _ 2) (St.CS _ 3)];rw[show St.width (s.drop pos).length (St.g (s.drop pos) 0) (St.g (s.drop pos) 1) (St.g (s.drop pos) 2) (St.g (s.drop pos) 3)=St.utf8 (s.drop pos) from rfl];split
    .simp only;omega
    .simp only;omega
   rw[hd,hw,sA s f];cases hc:s.drop pos with
   |nil=>rw[hc] at hl;simp at hl
   |cons c r=>
    rw[show Ow.jP (f+1) (c::r)=Ow.jP f ((c::r).drop (max (St.utf8 (c::r)) 1))+1 from rfl,<-hc,LR];omega
  .rw[Jj (by rw[hsz];exact h),Kj (by omega)];rfl
theorem yB(s:Jd):Lib.runeCount ⟨s.toArray⟩=Ow.chars s:=by
 unfold Lib.runeCount Ow.chars;rw[sA,K7,MV]
theorem ny(s:Jd)(w:World)(hs:s.length<=1000000)(ht:Tab w):Calls Tryz.prog 41 #[.string ⟨s.toArray⟩] w λe w'=>e=.returned (gr (Nm.count (Ow.chars s)))/\Below w.heap.size w w':=by
 have HRC:=Jf (λW=>Tryz.utf8_RuneCountInString ⟨s.toArray⟩ W (by rw[K7];omega));have hle:=Ow.qw s;rw[yB] at HRC;generalize Ow.chars s=ct at*
 have HOF:=Jf (λW h=>AD (ct:Int) W (by omega) (by omega) h);have HT:=Jf ht;have HZ:=Jf (Blk.new w 27 #[false,.string ⟨#[]⟩,.int .i64 0]);have HB:=Jf ((Ji w.heap.size w).alloc (Jh _) (.cells #[false,.string ⟨#[]⟩,.int .i64 0] 27));obtain⟨N,hN⟩:∃N,Nm.count (ct:Int)=N:=⟨_,rfl⟩;rw[show(Nm.parse (Lib.itoa (ct:Int))).1=N from hN] at HOF;rw[hN];clear ht hN;obtain⟨nn,nd,nx⟩:=N;unfold gr at HOF;go_enter Tryz.func41,Tryz.ntmps41;go_wp2_with fail;refine(HRC.out _).mono ?_;rintro e1 w1 ⟨rfl,pos,rfl⟩;have HB1:=Jf (show Below w.heap.size w ((w.alloc (.cells #[false,.string ⟨#[]⟩,.int .i64 0] 27)).iter ⟨s.toArray⟩ pos) from HB.out.alloc (by simp) _);have HZ1:=Jf (show Blk ((w.alloc (.cells #[false,.string ⟨#[]⟩,.int .i64 0] 27)).iter ⟨s.toArray⟩ pos) w.heap.size 27 #[false,.string ⟨#[]⟩,.int .i64 0] from HZ.out.alloc _);generalize (w.alloc (.cells #[false,.string ⟨#[]⟩,.int .i64 0] 27)).iter ⟨s.toArray⟩ pos=w1 at*
 go_wp2_with fail;refine(HOF.out _ (HT.out.keep HB1.out)).mono ?_;rintro e2 w2 ⟨rfl,hb2⟩;have HZ2:=Jf (HZ1.out.on hb2);have HB2:=Jf (HB1.out.trans (hb2.mono HB1.out.size));clear hb2;obtain⟨z0,z1,z2⟩:w2.cell? ⟨w.heap.size,0,none⟩=some (.bool false)/\w2.cell? ⟨w.heap.size,1,none⟩=some (.string ⟨#[]⟩)/\w2.cell? ⟨w.heap.size,2,none⟩=some (.int .i64 0):=⟨HZ2.out.cell 0,HZ2.out.cell 1,HZ2.out.cell 2⟩;have zf:=HZ2.out.frozen;have zl:=HZ2.out.lt;go_wp2_with fail;have HF:=Jf (show Blk (((w2.setCell ⟨w.heap.size,0,none⟩ (.bool nn)).setCell ⟨w.heap.size,1,none⟩ (.string ⟨nd.toArray⟩)).setCell ⟨w.heap.size,2,none⟩ (.int .i64 nx)) w.heap.size 27 [.bool nn,.string ⟨nd.toArray⟩,.int .i64 nx].toArray from(((show Blk w2 w.heap.size 27 [.bool false,.string ⟨#[]⟩,.int .i64 0].toArray from HZ2.out).ei 0 _).ei 1 _).ei 2 _);refine Ju (aj (l:=[_,_,_]) rfl _ _ _ rfl HF.out Tryz.underlying27 rfl (by kernel_rfl)) rfl ?_;exact⟨rfl,((HB2.out.setCell (Jh _) _).setCell (Jh _) _).setCell (Jh _) _⟩
theorem nu(v:Vl)(nm:Jd)(x:Value)(w:World)(hm:v.may=true)(hx:v.In w.cell? x):Calls Tryz.prog 68 #[x,.string ⟨nm.toArray⟩] w λe w'=>e=.returned (.bool (Ow.is v nm))/\Below w.heap.size w w':=by
 obtain⟨k,b,n,s,l,m⟩:=v;obtain⟨A,e,B,d,rfl,q1,q2,q3,q4,q5,q6⟩:=In.form hx;have hk:=(au hm).1;have hk2:=(au hm).2.1;have hn:=(au hm).2.2.2.2.2.2.2.1;have HB:=Jf ((Ji w.heap.size w).alloc (Jh _) (.cells #[.int .i64 k,b,n.neg,n.digits,.int .i64 n.exp,s,.slice A l.length e,.slice B m.length d] 31));have HWC:=Jf (λW=>Ek n.neg n.digits n.exp W);have HWH:=Jf (show Ow.whole n=decide (0<=n.exp) by
  unfold Ow.whole;unfold fC at hn;by_cases h:n.digits=[]
  .rw[Jo h] at hn;simp only[JH,JF] at hn;rw[h,hn.2];rfl
  .cases hd:n.digits with
   |nil=>exact absurd hd h
   |cons a t=>rfl)
 clear hx hm q1 q2 q3 q4 q5 q6 hn;have hk6:k=0\/k=1\/k=2\/k=3\/k=4\/k=5:=by omega
 clear hk hk2;by_cases h0:nm=[110,117,108,108]
 .have HNM:=Jf h0;have e0:(nm==[110,117,108,108])=true:=by rw[h0];rfl
  have HIS:=Jf (show Ow.is (.mk k b n s l m) nm=(k==0) by rw[h0];rcases hk6 with rfl|rfl|rfl|rfl|rfl|rfl<;>rfl);clear h0 hk6;go_enter Tryz.func68,Tryz.ntmps68;go_wp2_with fail;go_ret;exact⟨by rw[HIS.out];rfl,HB.out⟩
 by_cases h1:nm=[98,111,111,108,101,97,110]
 .have HNM:=Jf h1;have e0:(nm==[110,117,108,108])=false:=by rw[h1];rfl
  have e1:(nm==[98,111,111,108,101,97,110])=true:=by rw[h1];rfl
  have HIS:=Jf (show Ow.is (.mk k b n s l m) nm=(k==1) by rw[h1];rcases hk6 with rfl|rfl|rfl|rfl|rfl|rfl<;>rfl);clear h1 hk6;go_enter Tryz.func68,Tryz.ntmps68;go_wp2_with fail;go_ret;exact⟨by rw[HIS.out];rfl,HB.out⟩
 by_cases h2:nm=[110,117,109,98,101,114]
 .have HNM:=Jf h2;have e0:(nm==[110,117,108,108])=false:=by rw[h2];rfl
  have e1:(nm==[98,111,111,108,101,97,110])=false:=by rw[h2];rfl
  have e2:(nm==[110,117,109,98,101,114])=true:=by rw[h2];rfl
  have HIS:=Jf (show Ow.is (.mk k b n s l m) nm=(k==2) by rw[h2];rcases hk6 with rfl|rfl|rfl|rfl|rfl|rfl<;>rfl);clear h2 hk6;go_enter Tryz.func68,Tryz.ntmps68;go_wp2_with fail;go_ret;exact⟨by rw[HIS.out];rfl,HB.out⟩
 by_cases h3:nm=[105,110,116,101,103,101,114]
 .have HNM:=Jf h3;have e0:(nm==[110,117,108,108])=false:=by rw[h3];rfl
  have e1:(nm==[98,111,111,108,101,97,110])=false:=by rw[h3];rfl
  have e2:(nm==[110,117,109,98,101,114])=false:=by rw[h3];rfl
  have e3:(nm==[105,110,116,101,103,101,114])=true:=by rw[h3];rfl
  by_cases hk2:k=2
  .subst hk2;have HIS:=Jf (show Ow.is (.mk 2 b n s l m) nm=decide (0<=n.exp) by rw[h3,<-HWH.out];rfl);clear h3 hk6;go_enter Tryz.func68,Tryz.ntmps68;go_wp2_with fail;refine(HWC.out _).mono ?_;rintro e8 w8 ⟨rfl,hb8⟩;have HB8:=Jf (HB.out.trans (hb8.mono HB.out.size));clear hb8;generalize decide (0<=n.exp)=q at*
   go_wp2_with fail;go_ret;exact⟨by rw[HIS.out];rfl,HB8.out⟩
  .have HIS:=Jf (show Ow.is (.mk k b n s l m) nm=false by rw[h3];rcases hk6 with rfl|rfl|rfl|rfl|rfl|rfl<;>first|rfl|exact absurd rfl hk2);have e9:(k==2)=false:=by simpa using hk2
   clear h3 hk6 hk2;go_enter Tryz.func68,Tryz.ntmps68;go_wp2_with fail;go_ret;exact⟨by rw[HIS.out];rfl,HB.out⟩
 by_cases h4:nm=[115,116,114,105,110,103]
 .have HNM:=Jf h4;have e0:(nm==[110,117,108,108])=false:=by rw[h4];rfl
  have e1:(nm==[98,111,111,108,101,97,110])=false:=by rw[h4];rfl
  have e2:(nm==[110,117,109,98,101,114])=false:=by rw[h4];rfl
  have e3:(nm==[105,110,116,101,103,101,114])=false:=by rw[h4];rfl
  have e4:(nm==[115,116,114,105,110,103])=true:=by rw[h4];rfl
  have HIS:=Jf (show Ow.is (.mk k b n s l m) nm=(k==3) by rw[h4];rcases hk6 with rfl|rfl|rfl|rfl|rfl|rfl<;>rfl);clear h4 hk6;go_enter Tryz.func68,Tryz.ntmps68;go_wp2_with fail;go_ret;exact⟨by rw[HIS.out];rfl,HB.out⟩
 by_cases h5:nm=[97,114,114,97,121]
 .have HNM:=Jf h5;have e0:(nm==[110,117,108,108])=false:=by rw[h5];rfl
  have e1:(nm==[98,111,111,108,101,97,110])=false:=by rw[h5];rfl
  have e2:(nm==[110,117,109,98,101,114])=false:=by rw[h5];rfl
  have e3:(nm==[105,110,116,101,103,101,114])=false:=by rw[h5];rfl
  have e4:(nm==[115,116,114,105,110,103])=false:=by rw[h5];rfl
  have e5:(nm==[97,114,114,97,121])=true:=by rw[h5];rfl
  have HIS:=Jf (show Ow.is (.mk k b n s l m) nm=(k==4) by rw[h5];rcases hk6 with rfl|rfl|rfl|rfl|rfl|rfl<;>rfl);clear h5 hk6;go_enter Tryz.func68,Tryz.ntmps68;go_wp2_with fail;go_ret;exact⟨by rw[HIS.out];rfl,HB.out⟩
 by_cases h6:nm=[111,98,106,101,99,116]
 .have HNM:=Jf h6;have e0:(nm==[110,117,108,108])=false:=by rw[h6];rfl
  have e1:(nm==[98,111,111,108,101,97,110])=false:=by rw[h6];rfl
  have e2:(nm==[110,117,109,98,101,114])=false:=by rw[h6];rfl
  have e3:(nm==[105,110,116,101,103,101,114])=false:=by rw[h6];rfl
  have e4:(nm==[115,116,114,105,110,103])=false:=by rw[h6];rfl
  have e5:(nm==[97,114,114,97,121])=false:=by rw[h6];rfl
  have e6:(nm==[111,98,106,101,99,116])=true:=by rw[h6];rfl
  have HIS:=Jf (show Ow.is (.mk k b n s l m) nm=(k==5) by rw[h6];rcases hk6 with rfl|rfl|rfl|rfl|rfl|rfl<;>rfl);clear h6 hk6;go_enter Tryz.func68,Tryz.ntmps68;go_wp2_with fail;go_ret;exact⟨by rw[HIS.out];rfl,HB.out⟩
 have e0:(nm==[110,117,108,108])=false:=by rw[Jp];exact h0
 have e1:(nm==[98,111,111,108,101,97,110])=false:=by rw[Jp];exact h1
 have e2:(nm==[110,117,109,98,101,114])=false:=by rw[Jp];exact h2
 have e3:(nm==[105,110,116,101,103,101,114])=false:=by rw[Jp];exact h3
 have e4:(nm==[115,116,114,105,110,103])=false:=by rw[Jp];exact h4
 have e5:(nm==[97,114,114,97,121])=false:=by rw[Jp];exact h5
 have e6:(nm==[111,98,106,101,99,116])=false:=by rw[Jp];exact h6
 have HIS:=Jf (show Ow.is (.mk k b n s l m) nm=false by
  unfold Ow.is;rw[Jj (show¬nm=Ow.xO from h3),Jp];rcases hk6 with rfl|rfl|rfl|rfl|rfl|rfl
  .exactλq=>h0 q.symm
  .exactλq=>h1 q.symm
  .exactλq=>h2 q.symm
  .exactλq=>h4 q.symm
  .exactλq=>h5 q.symm
  .exactλq=>h6 q.symm)
 clear h0 h1 h2 h3 h4 h5 h6 hk6;go_enter Tryz.func68,Tryz.ntmps68;go_wp2_with fail;go_ret;exact⟨by rw[HIS.out];rfl,HB.out⟩
def Ex(l:List Vl)(f:Vl->Bool)(w:World)(i:Value)(wr:World):Prop:=∃j:Nat,j<=l.length/\i=.int .i64 j/\(∀(q:Nat) (h:q<l.length),q<j->f l[q]=false)/\Below w.heap.size w wr
theorem ov{l:List Vl}{f:Vl->Bool}(h:∀(q:Nat) (h:q<l.length),q<l.length->f l[q]=false):l.any f=false:=by
 rw[List.any_eq_false];intro x hx;obtain⟨q,hq,rfl⟩:=LG hx;rw[h q hq hq];decide
theorem ow{l:List Vl}{f:Vl->Bool}{j:Nat}(hj:j<l.length)(h:f l[j]=true):l.any f=true:=Mo.2 ⟨_,Jv hj,h⟩
theorem mw{l:List Vl}{f:Vl->Bool}{j:Nat}(hj:j<l.length)(h:∀(q:Nat) (h:q<l.length),q<j->f l[q]=false)(hf:f l[j]=false)(q:Nat)(hq:q<l.length)(hl:q<j+1):f l[q]=false:=by
 by_cases e:q=j
 .subst e;exact hf
 .exact h q hq (by omega)
theorem xL(v:Vl)(l:List Vl)(x:Value)(A:Option Addr)(c:Nat)(w:World)(hm:v.may=true)(hmt:∀u∈l,u.may=true)(hx:v.In w.cell? x)(hl:SlL w.cell? A l)(hc1:l.length<=c)(hc2:c<=maxLen):
  Calls Tryz.prog 38 #[x,.slice A l.length c] w λe w'=>e=.returned (.bool (Ow.oO l v))/\Below w.heap.size w w':=by
 unfold maxLen at hc2;obtain⟨v_1,v_2,v_3,v_4,v_5,v_6,v_7,v_8,v_9,v_a,v_b,v_c,rfl⟩:=In.cells hx;have HV:=Jf hx;have HL:=Jf hl;have HMT:=Jf hmt;have HM:=Jf hm;have HBS:=Jf ((Ji w.heap.size w).alloc (Jh _) (.cells #[.int .i64 v_1,v_2,v_3,v_4,.int .i64 v_5,v_6,.slice v_7 v_8 v_9,.slice v_a v_b v_c] 31));have HBX:=Jf (Blk.new w 31 #[.int .i64 v_1,v_2,v_3,v_4,.int .i64 v_5,v_6,.slice v_7 v_8 v_9,.slice v_a v_b v_c]);obtain⟨f,hf⟩:∃f:Vl->Bool,f=λu=>v.same u:=⟨_,rfl⟩;have HF:=Jf hf;have HRES:=Jf (show Ow.oO l v=l.any f by
  rw[hf];unfold Ow.oO
  congr 1
  funext u
  exact ur u v)
 clear hf;clear hx hl hm hmt;go_enter Tryz.func38,Tryz.ntmps38;go_wp2_with fail;generalize (w.alloc (.cells #[.int .i64 v_1,v_2,v_3,v_4,.int .i64 v_5,v_6,.slice v_7 v_8 v_9,.slice v_a v_b v_c] 31))=ws at*
 go_loopw [9] (Ex l f ws) (λi _=>l.length-(intOf i).toNat)
 case atStart=>exact⟨0,JE _,rfl,λq h h1=>by omega,Ji _ _⟩
 case round=>
  obtain⟨j,hj,rfl,hno,hbr⟩:=hrel;obtain⟨wz,hwz⟩:∃W,W=wr:=⟨_,rfl⟩;subst hwz;have HNO:=Jf hno;have HBR:=Jf hbr;clear hno hbr;have HBW:=Jf (HBS.out.trans (HBR.out.mono HBS.out.size));obtain⟨a0,a1,a2,a3,a4,a5,a6,a7⟩:=(HBX.out.on HBR.out).eight;have al:=(HBX.out.on HBR.out).lt;by_cases hlt:j<l.length
  .obtain⟨g,o,y,rfl,hy,hc⟩:=HL.out j _ (Jg hlt);have HMX:=Jf (HMT.out _ (Jv hlt));have HNX:=Jf (λh q hq hl=>mw (f:=f) hlt HNO.out h q hq hl);have HON:=Jf (λh=>ow (f:=f) hlt h);generalize (l[j]'hlt)=X at*
   obtain⟨k,b,n,s,l1,m1⟩:=X;obtain⟨A1,e1,B1,d1,rfl,p1,p2,p3,p4,p5,p6⟩:=In.form hy;obtain⟨c0,c1,c2,c3,c4,c5,c6,c7⟩:=(hc.keep (aa HBW.out)).eight;have cl:=Jn _ _ c0;have HY:=Jf (In.keep (aa (HBW.out.alloc HBW.out.size (.cells #[.int .i64 k,b,n.neg,n.digits,.int .i64 n.exp,s,.slice A1 l1.length e1,.slice B1 m1.length d1] 31))) _ _ hy);have HV1:=Jf (In.keep (aa (HBW.out.alloc HBW.out.size (.cells #[.int .i64 k,b,n.neg,n.digits,.int .i64 n.exp,s,.slice A1 l1.length e1,.slice B1 m1.length d1] 31))) _ _ HV.out);have HB1:=Jf (HBR.out.alloc HBR.out.size (.cells #[.int .i64 k,b,n.neg,n.digits,.int .i64 n.exp,s,.slice A1 l1.length e1,.slice B1 m1.length d1] 31));clear hy hc p5 p6;have HSM:=Jf (λ(W:World) h1 h2=>sC v (.mk k b n s l1 m1) (.agg #[.int .i64 v_1,v_2,v_3,v_4,.int .i64 v_5,v_6,.slice v_7 v_8 v_9,.slice v_a v_b v_c]) (.agg #[.int .i64 k,b,n.neg,n.digits,.int .i64 n.exp,s,.slice A1 l1.length e1,.slice B1 m1.length d1]) W HM.out HMX.out h1 h2);have hfx:f (.mk k b n s l1 m1)=v.same (.mk k b n s l1 m1):=by rw[HF.out]
   rw[hfx] at HNX HON;clear hfx;generalize v.same (.mk k b n s l1 m1)=q at*
   go_wp2_with fail;refine(HSM.out _ HV1.out HY.out).mono ?_;rintro e2 w2 ⟨rfl,hb2⟩;have HB2:=Jf (HB1.out.trans (hb2.mono HB1.out.size));clear hb2;cases q with
   |true=>
    have HD:=Jf (HON.out rfl);go_wp2_with fail;go_ret;exact⟨by rw[HRES.out,HD.out];rfl,HBS.out.trans (HB2.out.mono HBS.out.size)⟩
   |false=>
    have HD:=Jf (HNX.out rfl);go_wp2_with fail;go_roundw;case rel=>exact⟨j+1,by omega,by go_num,HD.out,HB2.out⟩
    case measure=>simp[intOf];omega
  .obtain rfl:j=l.length:=by omega
   have HD:=Jf (ov HNO.out);go_wp2_with fail;go_ret;exact⟨by rw[HRES.out,HD.out];rfl,HBW.out⟩
theorem td(v t:Vl)(x xt:Value)(w:World)(hm:v.may=true)(hmt:t.may=true)(hx:v.In w.cell? x)(hxt:t.In w.cell? xt):
  Calls Tryz.prog 37 #[x,xt] w λe w'=>e=.returned (.bool ((Ow.types t).any λu=>Ow.is v (Sh.strOf u)))/\Below w.heap.size w w':=by
 obtain⟨v_1,v_2,v_3,v_4,v_5,v_6,v_7,v_8,v_9,v_a,v_b,v_c,rfl⟩:=In.cells hx;obtain⟨k,b,n,s,l,m⟩:=t;obtain⟨A,e,B,d,rfl,q1,q2,q3,q4,q5,q6⟩:=In.form hxt;unfold maxLen at q2 q4;have hk0:=(au hmt).1;have hk5:=(au hmt).2.1;have hs3:=(au hmt).2.2.2.2.1;have hl4:=(au hmt).2.2.2.2.2.1;have hv0:=hm;have HV:=Jf hx;have HL:=Jf (show SlL w.cell? A l from q5);have HMT:=Jf ((ba l).1 (au hmt).2.2.2.2.2.2.2.2.2.1);have HM:=Jf hm;have HBS:=Jf (((Ji w.heap.size w).alloc (Jh _) (.cells #[.int .i64 v_1,v_2,v_3,v_4,.int .i64 v_5,v_6,.slice v_7 v_8 v_9,.slice v_a v_b v_c] 31)).alloc (by simp) (.cells #[.int .i64 k,b,n.neg,n.digits,.int .i64 n.exp,s,.slice A l.length e,.slice B m.length d] 31));have HBX:=Jf ((Blk.new w 31 #[.int .i64 v_1,v_2,v_3,v_4,.int .i64 v_5,v_6,.slice v_7 v_8 v_9,.slice v_a v_b v_c]).alloc (.cells #[.int .i64 k,b,n.neg,n.digits,.int .i64 n.exp,s,.slice A l.length e,.slice B m.length d] 31));have HV2:=Jf (In.keep (aa HBS.out) _ _ hx);clear hx hxt hm hmt q5 q6;by_cases hk:k=4
 .subst hk;obtain⟨f,hf⟩:∃f:Vl->Bool,f=λu=>Ow.is v (Sh.strOf u):=⟨_,rfl⟩;have HF:=Jf hf;have HRES:=Jf (show(Ow.types (.mk 4 b n s l m)).any (λu=>Ow.is v (Sh.strOf u))=l.any f by rw[hf];rfl);clear hf;clear hs3 hl4 hk0 hk5 hv0;go_enter Tryz.func37,Tryz.ntmps37;go_wp2_with fail;generalize ((w.alloc (.cells #[.int .i64 v_1,v_2,v_3,v_4,.int .i64 v_5,v_6,.slice v_7 v_8 v_9,.slice v_a v_b v_c] 31)).alloc (.cells #[.int .i64 4,b,n.neg,n.digits,.int .i64 n.exp,s,.slice A l.length e,.slice B m.length d] 31))=ws at*
  go_loopw [17] (Ex l f ws) (λi _=>l.length-(intOf i).toNat)
  case atStart=>exact⟨0,JE _,rfl,λq h h1=>by omega,Ji _ _⟩
  case round=>
   obtain⟨j,hj,rfl,hno,hbr⟩:=hrel;obtain⟨wz,hwz⟩:∃W,W=wr:=⟨_,rfl⟩;subst hwz;have HNO:=Jf hno;have HBR:=Jf hbr;clear hno hbr;have HBW:=Jf (HBS.out.trans (HBR.out.mono HBS.out.size));obtain⟨a0,a1,a2,a3,a4,a5,a6,a7⟩:=(HBX.out.on HBR.out).eight;have al:=(HBX.out.on HBR.out).lt;by_cases hlt:j<l.length
   .obtain⟨g,o,y,rfl,hy,hc⟩:=HL.out j _ (Jg hlt);have HMX:=Jf (HMT.out _ (Jv hlt));have HNX:=Jf (λh q hq hl=>mw (f:=f) hlt HNO.out h q hq hl);have HON:=Jf (λh=>ow (f:=f) hlt h);generalize (l[j]'hlt)=X at*
    obtain⟨k,b,n,s,l1,m1⟩:=X;obtain⟨A1,e1,B1,d1,rfl,p1,p2,p3,p4,p5,p6⟩:=In.form hy;obtain⟨c0,c1,c2,c3,c4,c5,c6,c7⟩:=(hc.keep (aa HBW.out)).eight;have cl:=Jn _ _ c0;have HY:=Jf (In.keep (aa (HBW.out.alloc HBW.out.size (.cells #[.int .i64 k,b,n.neg,n.digits,.int .i64 n.exp,s,.slice A1 l1.length e1,.slice B1 m1.length d1] 31))) _ _ hy);have HV1:=Jf (In.keep (aa (HBW.out.alloc HBW.out.size (.cells #[.int .i64 k,b,n.neg,n.digits,.int .i64 n.exp,s,.slice A1 l1.length e1,.slice B1 m1.length d1] 31))) _ _ HV.out);have HB1:=Jf (HBR.out.alloc HBR.out.size (.cells #[.int .i64 k,b,n.neg,n.digits,.int .i64 n.exp,s,.slice A1 l1.length e1,.slice B1 m1.length d1] 31));clear hy hc p5 p6;have HSM:=Jf (λ(W:World) h1=>nu v s (.agg #[.int .i64 v_1,v_2,v_3,v_4,.int .i64 v_5,v_6,.slice v_7 v_8 v_9,.slice v_a v_b v_c]) W HM.out h1);have hfx:f (.mk k b n s l1 m1)=Ow.is v s:=by rw[HF.out];rfl
    rw[hfx] at HNX HON;clear hfx;generalize Ow.is v s=q at*
    go_wp2_with fail;refine(HSM.out _ HV1.out).mono ?_;rintro e2 w2 ⟨rfl,hb2⟩;have HB2:=Jf (HB1.out.trans (hb2.mono HB1.out.size));clear hb2;cases q with
    |true=>
     have HD:=Jf (HON.out rfl);go_wp2_with fail;go_ret;exact⟨by rw[HRES.out,HD.out];rfl,HBS.out.trans (HB2.out.mono HBS.out.size)⟩
    |false=>
     have HD:=Jf (HNX.out rfl);go_wp2_with fail;go_roundw;case rel=>exact⟨j+1,by omega,by go_num,HD.out,HB2.out⟩
     case measure=>simp[intOf];omega
   .obtain rfl:j=l.length:=by omega
    have HD:=Jf (ov HNO.out);go_wp2_with fail;go_ret;exact⟨by rw[HRES.out,HD.out];rfl,HBW.out⟩
 .have t1:(k==4)=false:=by simpa using hk
  have t2:(k !=4)=true:=by simpa using hk
  have HSM:=Jf (λ(W:World) h1=>nu v s (.agg #[.int .i64 v_1,v_2,v_3,v_4,.int .i64 v_5,v_6,.slice v_7 v_8 v_9,.slice v_a v_b v_c]) W HM.out h1);have HRES:=Jf (show(Ow.types (.mk k b n s l m)).any (λu=>Ow.is v (Sh.strOf u))=Ow.is v s by
   by_cases h3:k=3
   .subst h3;show([Vl.mk 3 b n s l m].any λu=>Ow.is v (Sh.strOf u))=_;simp[Sh.strOf]
   .rw[hs3 h3];have hl0:=hl4 hk;subst hl0;have e1:Ow.types (.mk k b n s [] m)=[]:=by
     unfold Ow.types;rw[Jj (by simpa[Sh.kindOf] using h3)];rfl
    rw[hs3 h3] at e1;rw[e1];obtain⟨vk,vb,vn,vs,vl,vm⟩:=v;have h0:=(au hv0).1;have h5:=(au hv0).2.1;have h6:vk=0\/vk=1\/vk=2\/vk=3\/vk=4\/vk=5:=by omega
    rcases h6 with rfl|rfl|rfl|rfl|rfl|rfl<;>rfl)
  clear hk hs3 hl4 hk0 hk5 hv0;generalize Ow.is v s=q at*
  go_enter Tryz.func37,Tryz.ntmps37;go_wp2_with fail;refine(HSM.out _ HV2.out).mono ?_;rintro e2 w2 ⟨rfl,hb2⟩;have HB2:=Jf (HBS.out.trans (hb2.mono HBS.out.size));clear hb2;go_wp2_with fail;go_ret;exact⟨by rw[HRES.out];rfl,HB2.out⟩
theorem D2(v:Vl)(l:List Vl)(x:Value)(A:Option Addr)(c:Nat)(w:World)(hm:v.may=true)(hsz:v.size<=1000000)(hmt:∀u∈l,u.may=true)(hx:v.In w.cell? x)(hl:SlL w.cell? A l)(hc1:l.length<=c)(hc2:c<=maxLen):
  Calls Tryz.prog 44 #[x,.slice A l.length c] w λe w'=>e=.returned (.bool (l.any λu=>(v.find (Sh.strOf u)).isNone))/\Below w.heap.size w w':=by
 unfold maxLen at hc2;obtain⟨v_1,v_2,v_3,v_4,v_5,v_6,v_7,v_8,v_9,v_a,v_b,v_c,rfl⟩:=In.cells hx;have HV:=Jf hx;have HL:=Jf hl;have HMT:=Jf hmt;have HFI:=Jf (λ(s:Jd) (W:World) h1=>Fg v s (.agg #[.int .i64 v_1,v_2,v_3,v_4,.int .i64 v_5,v_6,.slice v_7 v_8 v_9,.slice v_a v_b v_c]) W hm (by omega) h1);have HBS:=Jf ((Ji w.heap.size w).alloc (Jh _) (.cells #[.int .i64 v_1,v_2,v_3,v_4,.int .i64 v_5,v_6,.slice v_7 v_8 v_9,.slice v_a v_b v_c] 31));have HBX:=Jf (Blk.new w 31 #[.int .i64 v_1,v_2,v_3,v_4,.int .i64 v_5,v_6,.slice v_7 v_8 v_9,.slice v_a v_b v_c]);obtain⟨f,hf⟩:∃f:Vl->Bool,f=λu=>(v.find (Sh.strOf u)).isNone:=⟨_,rfl⟩;have HF:=Jf hf;have HRES:=Jf (show(l.any λu=>(v.find (Sh.strOf u)).isNone)=l.any f by rw[hf]);clear hf;clear hx hl hm hmt;go_enter Tryz.func44,Tryz.ntmps44;go_wp2_with fail;generalize (w.alloc (.cells #[.int .i64 v_1,v_2,v_3,v_4,.int .i64 v_5,v_6,.slice v_7 v_8 v_9,.slice v_a v_b v_c] 31))=ws at*
 go_loopw [11] (Ex l f ws) (λi _=>l.length-(intOf i).toNat)
 case atStart=>exact⟨0,JE _,rfl,λq h h1=>by omega,Ji _ _⟩
 case round=>
  obtain⟨j,hj,rfl,hno,hbr⟩:=hrel;obtain⟨wz,hwz⟩:∃W,W=wr:=⟨_,rfl⟩;subst hwz;have HNO:=Jf hno;have HBR:=Jf hbr;clear hno hbr;have HBW:=Jf (HBS.out.trans (HBR.out.mono HBS.out.size));obtain⟨a0,a1,a2,a3,a4,a5,a6,a7⟩:=(HBX.out.on HBR.out).eight;have al:=(HBX.out.on HBR.out).lt;by_cases hlt:j<l.length
  .obtain⟨g,o,y,rfl,hy,hc⟩:=HL.out j _ (Jg hlt);have HMX:=Jf (HMT.out _ (Jv hlt));have HNX:=Jf (λh q hq hl=>mw (f:=f) hlt HNO.out h q hq hl);have HON:=Jf (λh=>ow (f:=f) hlt h);generalize (l[j]'hlt)=X at*
   obtain⟨k,b,n,s,l1,m1⟩:=X;obtain⟨A1,e1,B1,d1,rfl,p1,p2,p3,p4,p5,p6⟩:=In.form hy;obtain⟨c0,c1,c2,c3,c4,c5,c6,c7⟩:=(hc.keep (aa HBW.out)).eight;have cl:=Jn _ _ c0;have HY:=Jf (In.keep (aa (HBW.out.alloc HBW.out.size (.cells #[.int .i64 k,b,n.neg,n.digits,.int .i64 n.exp,s,.slice A1 l1.length e1,.slice B1 m1.length d1] 31))) _ _ hy);have HV1:=Jf (In.keep (aa (HBW.out.alloc HBW.out.size (.cells #[.int .i64 k,b,n.neg,n.digits,.int .i64 n.exp,s,.slice A1 l1.length e1,.slice B1 m1.length d1] 31))) _ _ HV.out);have HB1:=Jf (HBR.out.alloc HBR.out.size (.cells #[.int .i64 k,b,n.neg,n.digits,.int .i64 n.exp,s,.slice A1 l1.length e1,.slice B1 m1.length d1] 31));clear hy hc p5 p6;have HSM:=Jf (λ(W:World) h1=>HFI.out s W h1);unfold dB at HSM;have hfx:f (.mk k b n s l1 m1)= !(v.find s).isSome:=by rw[HF.out,Option.not_isSome];rfl
   rw[hfx] at HNX HON;clear hfx;generalize v.find s=fr at*
   obtain⟨q,hq⟩:∃q,fr.isSome=q:=⟨_,rfl⟩;rw[hq] at HNX HON;simp only[hq] at HSM;go_wp2_with fail;refine(HSM.out _ HV1.out).mono ?_;rintro e2 w2 ⟨y2,rfl,hy2,hb2⟩;obtain⟨f_1,f_2,f_3,f_4,f_5,f_6,f_7,f_8,f_9,f_a,f_b,f_c,rfl⟩:=In.cells hy2;have HB2:=Jf (HB1.out.trans (hb2.mono HB1.out.size));clear hb2;have HB3:=Jf (HB2.out.alloc HB2.out.size (.cells #[.int .i64 f_1,f_2,f_3,f_4,.int .i64 f_5,f_6,.slice f_7 f_8 f_9,.slice f_a f_b f_c] 31));clear hy2 hq;cases q with
   |false=>
    have HD:=Jf (HON.out rfl);go_wp2_with fail;go_ret;exact⟨by rw[HRES.out,HD.out];rfl,HBS.out.trans (HB3.out.mono HBS.out.size)⟩
   |true=>
    have HD:=Jf (HNX.out rfl);go_wp2_with fail;go_roundw;case rel=>exact⟨j+1,by omega,by go_num,HD.out,HB3.out⟩
    case measure=>simp[intOf];omega
  .obtain rfl:j=l.length:=by omega
   have HD:=Jf (ov HNO.out);go_wp2_with fail;go_ret;exact⟨by rw[HRES.out,HD.out];rfl,HBW.out⟩
theorem Blk.yR{w:World}{g:Nat}{t:TypeId}{c0 c1 c2 c3 c4 c5 c6 c7 c8 c9:Value}(h:Blk w g t #[c0,c1,c2,c3,c4,c5,c6,c7,c8,c9]):
  w.cell? ⟨g,0,none⟩=some c0/\w.cell? ⟨g,1,none⟩=some c1/\w.cell? ⟨g,2,none⟩=some c2/\w.cell? ⟨g,3,none⟩=some c3/\w.cell? ⟨g,4,none⟩=some c4/\w.cell? ⟨g,5,none⟩=some c5/\w.cell? ⟨g,6,none⟩=some c6/\w.cell? ⟨g,7,none⟩=some c7/\w.cell? ⟨g,8,none⟩=some c8/\w.cell? ⟨g,9,none⟩=some c9:=
 ⟨h.cell 0,h.cell 1,h.cell 2,h.cell 3,h.cell 4,h.cell 5,h.cell 6,h.cell 7,h.cell 8,h.cell 9⟩
theorem xr(nm:Jd)(k:Int)(b:Bool)(n:Nm.Num)(s:Jd)(l:List Vl)(m:List Js.Mem)(A:Option Addr)(e:Nat)(B:Option Addr)(d:Nat)(A4:Option Addr)(n4 c4:Nat)(v:Vl)(xv:Value)(w:World)(hmk:(Vl.mk k b n s l m).may=true)(hwv:iZ v)(hxk:(Vl.mk k b n s l m).In w.cell? (vlV k b n.neg n.digits n.exp s (.slice A l.length e) (.slice B m.length d)))(hxv:v.In w.cell? xv)(htab:Tab w):Calls Tryz.prog 23 #[.agg #[.string ⟨nm.toArray⟩,.int .i64 k,.bool b,.bool n.neg,.string ⟨n.digits.toArray⟩,.int .i64 n.exp,.string ⟨s.toArray⟩,.slice A l.length e,.slice B m.length d,.slice A4 n4 c4],xv] w λe w'=>e=.returned (.bool (Ow.aZ nm (.mk k b n s l m) v))/\Below w.heap.size w w':=by
 obtain⟨hmv,hsz,hsl⟩:=hwv;obtain⟨vk,vb,vn,vs,vl,vm⟩:=v;obtain⟨Av,ev,Bv,dv,rfl,r1,r2,r3,r4,r5,r6⟩:=In.form hxv;obtain⟨A',e',B',d',he,q1,q2,q3,q4,q5,q6⟩:=In.form hxk;unfold vlV at he;simp at he;obtain⟨⟨rfl,rfl⟩,rfl,rfl⟩:=he;have HXK:=Jf hxk;have HXV:=Jf hxv;have HLK:=Jf (show SlL w.cell? A l from q5);have HLV:=Jf (show SlL w.cell? Av vl from r5);have HMK:=Jf hmk;have HMV:=Jf hmv;have HQ:=Jf (⟨q1,q2⟩:l.length<=e/\e<=maxLen);have HMKL:=Jf ((ba l).1 (au hmk).2.2.2.2.2.2.2.2.2.1);have HMVL:=Jf ((ba vl).1 (au hmv).2.2.2.2.2.2.2.2.2.1);have HVL4:=Jf (au hmv).2.2.2.2.2.1;have HNK:=Jf (bF (au hmk).2.2.2.2.2.2.2.1);have HNV:=Jf (bF (au hmv).2.2.2.2.2.2.2.1);have hvl:vl.length<=1000000:=by
  have h:vl.length<=aH vl:=cS vl;simp only[Vl.size] at hsz;omega
 have hvs:vs.length<=1000000:=by simp only[Vl.bL] at hsl;exact hsl.2.1
 have HSZ:=Jf hsz;have HT:=Jf htab;unfold maxLen at q2 r2 q4 r4;have HB0:=Jf (((Ji w.heap.size w).alloc (Jh _) (.cells #[nm,.int .i64 k,b,n.neg,n.digits,.int .i64 n.exp,s,.slice A l.length e,.slice B m.length d,.slice A4 n4 c4] 68)).alloc (by simp) (.cells #[.int .i64 vk,vb,vn.neg,vn.digits,.int .i64 vn.exp,vs,.slice Av vl.length ev,.slice Bv vm.length dv] 31));clear hxk hxv q5 q6 r5 r6 hsz hsl hmk hmv htab;by_cases hnm:nm=[116,121,112,101]
 .have f0:(nm==[116,121,112,101])=true:=by rw[hnm];rfl
  have HXV0:=Jf (In.keep (aa HB0.out) _ _ HXV.out);have HXK0:=Jf (In.keep (aa HB0.out) _ _ HXK.out);have HLK0:=Jf (HLK.out.keep (aa HB0.out));have HLV0:=Jf (HLV.out.keep (aa HB0.out));have HC:=Jf (λ(W:World) h1 h2=>td (.mk vk vb vn vs vl vm) (.mk k b n s l m) (.agg #[.int .i64 vk,vb,vn.neg,vn.digits,.int .i64 vn.exp,vs,.slice Av vl.length ev,.slice Bv vm.length dv]) (.agg #[.int .i64 k,b,n.neg,n.digits,.int .i64 n.exp,s,.slice A l.length e,.slice B m.length d]) W HMV.out HMK.out h1 h2);obtain⟨q,hq⟩:∃q,((Ow.types (.mk k b n s l m)).any λu=>Ow.is (.mk vk vb vn vs vl vm) (Sh.strOf u))=q:=⟨_,rfl⟩;have HRES:=Jf (show Ow.aZ nm (.mk k b n s l m) (.mk vk vb vn vs vl vm)= !q by rw[hnm,<-hq];rfl);rw[hq] at HC;clear hq hnm;go_enter Tryz.func23,Tryz.ntmps23;go_wp2_with fail;refine(HC.out _ HXV0.out HXK0.out).mono ?_;rintro e2 w2 ⟨rfl,hb2⟩;have HB2:=Jf (HB0.out.trans (hb2.mono HB0.out.size));clear hb2;go_wp2_with fail;go_ret;exact⟨by rw[HRES.out];rfl,HB2.out⟩
 have f0:(nm==[116,121,112,101])=false:=by rw[Jp];exact hnm
 clear hnm;by_cases hnm:nm=[101,110,117,109]
 .have f1:(nm==[101,110,117,109])=true:=by rw[hnm];rfl
  have HXV0:=Jf (In.keep (aa HB0.out) _ _ HXV.out);have HXK0:=Jf (In.keep (aa HB0.out) _ _ HXK.out);have HLK0:=Jf (HLK.out.keep (aa HB0.out));have HLV0:=Jf (HLV.out.keep (aa HB0.out));have HC:=Jf (λ(W:World) h1 h2=>xL (.mk vk vb vn vs vl vm) l (.agg #[.int .i64 vk,vb,vn.neg,vn.digits,.int .i64 vn.exp,vs,.slice Av vl.length ev,.slice Bv vm.length dv]) A e W HMV.out HMKL.out h1 h2 HQ.out.1 HQ.out.2);obtain⟨q,hq⟩:∃q,Ow.oO l (.mk vk vb vn vs vl vm)=q:=⟨_,rfl⟩;have HRES:=Jf (show Ow.aZ nm (.mk k b n s l m) (.mk vk vb vn vs vl vm)= !q by rw[hnm,<-hq];rfl);rw[hq] at HC;clear hq hnm;go_enter Tryz.func23,Tryz.ntmps23;go_wp2_with fail;refine(HC.out _ HXV0.out HLK0.out).mono ?_;rintro e2 w2 ⟨rfl,hb2⟩;have HB2:=Jf (HB0.out.trans (hb2.mono HB0.out.size));clear hb2;go_wp2_with fail;go_ret;exact⟨by rw[HRES.out];rfl,HB2.out⟩
 have f1:(nm==[101,110,117,109])=false:=by rw[Jp];exact hnm
 clear hnm;by_cases hnm:nm=[99,111,110,115,116]
 .have f2:(nm==[99,111,110,115,116])=true:=by rw[hnm];rfl
  have HXV0:=Jf (In.keep (aa HB0.out) _ _ HXV.out);have HXK0:=Jf (In.keep (aa HB0.out) _ _ HXK.out);have HLK0:=Jf (HLK.out.keep (aa HB0.out));have HLV0:=Jf (HLV.out.keep (aa HB0.out));have HC:=Jf (λ(W:World) h1 h2=>sC (.mk vk vb vn vs vl vm) (.mk k b n s l m) (.agg #[.int .i64 vk,vb,vn.neg,vn.digits,.int .i64 vn.exp,vs,.slice Av vl.length ev,.slice Bv vm.length dv]) (.agg #[.int .i64 k,b,n.neg,n.digits,.int .i64 n.exp,s,.slice A l.length e,.slice B m.length d]) W HMV.out HMK.out h1 h2);obtain⟨q,hq⟩:∃q,(Vl.mk vk vb vn vs vl vm).same (.mk k b n s l m)=q:=⟨_,rfl⟩;have HRES:=Jf (show Ow.aZ nm (.mk k b n s l m) (.mk vk vb vn vs vl vm)= !q by rw[hnm,<-hq,ur];rfl);rw[hq] at HC;clear hq hnm;go_enter Tryz.func23,Tryz.ntmps23;go_wp2_with fail;refine(HC.out _ HXV0.out HXK0.out).mono ?_;rintro e2 w2 ⟨rfl,hb2⟩;have HB2:=Jf (HB0.out.trans (hb2.mono HB0.out.size));clear hb2;go_wp2_with fail;go_ret;exact⟨by rw[HRES.out];rfl,HB2.out⟩
 have f2:(nm==[99,111,110,115,116])=false:=by rw[Jp];exact hnm
 clear hnm;by_cases hnm:nm=[109,105,110,105,109,117,109]
 .have f3:(nm==[109,105,110,105,109,117,109])=true:=by rw[hnm];rfl
  by_cases hk2:vk=2
  .have g1:(vk==2)=true:=by simpa using hk2
   have HC:=Jf (λ(W:World)=>jQ vn.neg vn.digits vn.exp n.neg n.digits n.exp W HNV.out.fair HNK.out.fair);obtain⟨q,hq⟩:∃q,Nm.cmp ⟨vn.neg,vn.digits,vn.exp⟩ ⟨n.neg,n.digits,n.exp⟩=q:=⟨_,rfl⟩;have HRES:=Jf (show Ow.aZ nm (.mk k b n s l m) (.mk vk vb vn vs vl vm)=decide (q<0) by
    rw[hnm,<-hq,<-Nm.fE _ _ HNV.out HNK.out,hk2];rfl)
   rw[hq] at HC;clear hq hnm hk2;go_enter Tryz.func23,Tryz.ntmps23;go_wp2_with fail;refine(HC.out _).mono ?_;rintro e2 w2 ⟨rfl,hb2⟩;have HB2:=Jf (HB0.out.trans (hb2.mono HB0.out.size));clear hb2;go_wp2_with fail;go_ret;exact⟨by rw[HRES.out];rfl,HB2.out⟩
  .have g1:(vk==2)=false:=by simpa using hk2
   have HRES:=Jf (show Ow.aZ nm (.mk k b n s l m) (.mk vk vb vn vs vl vm)=false by rw[hnm];simp[Ow.aZ,Ow.pP,Ow.fX,Ow.gh,Sh.kindOf,hk2]);clear hnm hk2;go_enter Tryz.func23,Tryz.ntmps23;go_wp2_with fail;go_ret;exact⟨by rw[HRES.out];rfl,HB0.out⟩
 have f3:(nm==[109,105,110,105,109,117,109])=false:=by rw[Jp];exact hnm
 clear hnm;by_cases hnm:nm=[109,97,120,105,109,117,109]
 .have f4:(nm==[109,97,120,105,109,117,109])=true:=by rw[hnm];rfl
  by_cases hk2:vk=2
  .have g1:(vk==2)=true:=by simpa using hk2
   have HC:=Jf (λ(W:World)=>jQ vn.neg vn.digits vn.exp n.neg n.digits n.exp W HNV.out.fair HNK.out.fair);obtain⟨q,hq⟩:∃q,Nm.cmp ⟨vn.neg,vn.digits,vn.exp⟩ ⟨n.neg,n.digits,n.exp⟩=q:=⟨_,rfl⟩;have HRES:=Jf (show Ow.aZ nm (.mk k b n s l m) (.mk vk vb vn vs vl vm)=decide (0<q) by
    rw[hnm,<-hq,<-Nm.fE _ _ HNV.out HNK.out,hk2];rfl)
   rw[hq] at HC;clear hq hnm hk2;go_enter Tryz.func23,Tryz.ntmps23;go_wp2_with fail;refine(HC.out _).mono ?_;rintro e2 w2 ⟨rfl,hb2⟩;have HB2:=Jf (HB0.out.trans (hb2.mono HB0.out.size));clear hb2;go_wp2_with fail;go_ret;exact⟨by rw[HRES.out];rfl,HB2.out⟩
  .have g1:(vk==2)=false:=by simpa using hk2
   have HRES:=Jf (show Ow.aZ nm (.mk k b n s l m) (.mk vk vb vn vs vl vm)=false by rw[hnm];simp[Ow.aZ,Ow.pP,Ow.fX,Ow.gh,Sh.kindOf,hk2]);clear hnm hk2;go_enter Tryz.func23,Tryz.ntmps23;go_wp2_with fail;go_ret;exact⟨by rw[HRES.out];rfl,HB0.out⟩
 have f4:(nm==[109,97,120,105,109,117,109])=false:=by rw[Jp];exact hnm
 clear hnm;by_cases hnm:nm=[109,105,110,76,101,110,103,116,104]
 .have f5:(nm==[109,105,110,76,101,110,103,116,104])=true:=by rw[hnm];rfl
  by_cases hk2:vk=3
  .have g1:(vk==3)=true:=by simpa using hk2
   obtain⟨c,hc⟩:∃c,Nm.count (Ow.chars vs:Int)=c:=⟨_,rfl⟩;have hcm:Nm.May c:=by rw[<-hc];exact Nm.jR _ (by have:=Ow.qw vs;omega)
   have HL1:=Jf (λ(W:World) h=>ny vs W hvs h);rw[hc] at HL1;obtain⟨q,hq⟩:∃q,Nm.cmp c n=q:=⟨_,rfl⟩;obtain⟨z,hz⟩:∃z,decide (q<0)=z:=⟨_,rfl⟩;have HRES:=Jf (show Ow.aZ nm (.mk k b n s l m) (.mk vk vb vn vs vl vm)=z by
    rw[hnm,<-hz,<-hq,<-Nm.fE _ _ hcm HNK.out,<-hc,hk2];rfl)
   have HZB:=Jf (show(Value.bool z)=Value.bool (decide (q<0)) by rw[hz]);have HC:=Jf (λ(W:World)=>jQ c.neg c.digits c.exp n.neg n.digits n.exp W hcm.fair HNK.out.fair);rw[show Nm.cmp ⟨c.neg,c.digits,c.exp⟩ ⟨n.neg,n.digits,n.exp⟩=q from hq] at HC;unfold gr at HL1;clear hq hnm hk2 hc hcm hz;have HBK:=Jf ((Blk.new w 68 #[nm,.int .i64 k,b,n.neg,n.digits,.int .i64 n.exp,s,.slice A l.length e,.slice B m.length d,.slice A4 n4 c4]).alloc (.cells #[.int .i64 vk,vb,vn.neg,vn.digits,.int .i64 vn.exp,vs,.slice Av vl.length ev,.slice Bv vm.length dv] 31));have HBV:=Jf (Blk.cW w (.cells #[nm,.int .i64 k,b,n.neg,n.digits,.int .i64 n.exp,s,.slice A l.length e,.slice B m.length d,.slice A4 n4 c4] 68) 31 #[.int .i64 vk,vb,vn.neg,vn.digits,.int .i64 vn.exp,vs,.slice Av vl.length ev,.slice Bv vm.length dv]);go_enter Tryz.func23,Tryz.ntmps23;go_upto_region 13 with(fail);generalize (w.alloc (.cells #[nm,.int .i64 k,b,n.neg,n.digits,.int .i64 n.exp,s,.slice A l.length e,.slice B m.length d,.slice A4 n4 c4] 68)).alloc (.cells #[.int .i64 vk,vb,vn.neg,vn.digits,.int .i64 vn.exp,vs,.slice Av vl.length ev,.slice Bv vm.length dv] 31)=w0 at*
   refine JT (S:=λW9=>Below w0.heap.size w0 W9) (by kernel_rfl) (show Below w0.heap.size w0 w0.drew from below_drewN (Ji _ _) 1) (λht=>?_);generalize w0.drew=w8 at*
   refine af 0 (.pointer (some ⟨w.heap.size+1,0,none⟩)) ht ?_ ?_
   .intro W9 hSw;go_simp
   try simp only[ab]
   refine af 1 (.int .i64 vk) ht ?_ ?_
   .intro W9 hSw;obtain⟨b0,b1,b2,b3,b4,b5,b6,b7⟩:=(HBV.out.on hSw).eight;have bl:=(HBV.out.on hSw).lt;go_simp
   try simp only[ab]
   refine af 2 (.bool true) ht ?_ ?_
   .intro W9 hSw;go_simp
   try simp only[ab]
   refine af 3 (.bool true) ht ?_ ?_
   .intro W9 hSw;go_simp
   try simp only[ab]
   refine af 4 (.pointer (some ⟨w.heap.size+1,5,none⟩)) ht ?_ ?_
   .intro W9 hSw;go_simp
   try simp only[ab]
   refine af 5 (.string ⟨vs.toArray⟩) ht ?_ ?_
   .intro W9 hSw;obtain⟨b0,b1,b2,b3,b4,b5,b6,b7⟩:=(HBV.out.on hSw).eight;have bl:=(HBV.out.on hSw).lt;go_simp
   try simp only[ab]
   refine af 7 (.pointer (some ⟨w.heap.size,1,none⟩)) ht ?_ ?_
   .intro W9 hSw;go_simp
   try simp only[ab]
   refine af 8 (.pointer (some ⟨w.heap.size,3,none⟩)) ht ?_ ?_
   .intro W9 hSw;go_simp
   try simp only[ab]
   refine af 9 (.agg #[n.neg,n.digits,.int .i64 n.exp]) ht ?_ ?_
   .intro W9 hSw;obtain⟨a0,a1,a2,a3,a4,a5,a6,a7,a8,a9⟩:=(HBK.out.on hSw).yR;have al:=(HBK.out.on hSw).lt;go_simp
   try simp only[ab]
   refine bz 6 λK hK=>?_;go_simp;refine(HL1.out _ (HT.out.keep (HB0.out.trans (ht.mono HB0.out.size)))).mono ?_;rintro e2 w2 ⟨rfl,hb2⟩;have hs:=ht.trans (hb2.mono ht.size);clear ht hb2;go_wp2_with fail;refine hK.out _ _ hs (λht=>?_);clear hK K hs;try simp only[ab]
   refine bz 10 λK hK=>?_;go_simp;refine(HC.out _).mono ?_;rintro e3 w3 ⟨rfl,hb3⟩;have hs:=ht.trans (hb3.mono ht.size);clear ht hb3;go_wp2_with fail;refine hK.out _ _ hs (λht=>?_);clear hK K hs;try simp only[ab]
   refine af 11 (.bool z) ht ?_ ?_
   .intro W9 hSw;rw[HZB.out];go_simp
   try simp only[ab]
   refine af 12 (.bool z) ht ?_ ?_
   .intro W9 hSw;go_simp
   try simp only[ab]
   refine af 13 (.bool z) ht ?_ ?_
   .intro W9 hSw;go_simp
   try simp only[ab]
   refine Ke (by kernel_rfl) ?_ _;have HB2:=Jf (HB0.out.trans (ht.mono HB0.out.size));clear ht;go_wp2_with fail;go_ret;exact⟨by rw[HRES.out];rfl,HB2.out⟩
  .have g1:(vk==3)=false:=by simpa using hk2
   have HRES:=Jf (show Ow.aZ nm (.mk k b n s l m) (.mk vk vb vn vs vl vm)=false by rw[hnm];simp[Ow.aZ,Ow.pP,Ow.fX,Ow.gh,Sh.kindOf,hk2]);clear hnm hk2;have HBK:=Jf ((Blk.new w 68 #[nm,.int .i64 k,b,n.neg,n.digits,.int .i64 n.exp,s,.slice A l.length e,.slice B m.length d,.slice A4 n4 c4]).alloc (.cells #[.int .i64 vk,vb,vn.neg,vn.digits,.int .i64 vn.exp,vs,.slice Av vl.length ev,.slice Bv vm.length dv] 31));have HBV:=Jf (Blk.cW w (.cells #[nm,.int .i64 k,b,n.neg,n.digits,.int .i64 n.exp,s,.slice A l.length e,.slice B m.length d,.slice A4 n4 c4] 68) 31 #[.int .i64 vk,vb,vn.neg,vn.digits,.int .i64 vn.exp,vs,.slice Av vl.length ev,.slice Bv vm.length dv]);go_enter Tryz.func23,Tryz.ntmps23;go_upto_region 13 with(fail);generalize (w.alloc (.cells #[nm,.int .i64 k,b,n.neg,n.digits,.int .i64 n.exp,s,.slice A l.length e,.slice B m.length d,.slice A4 n4 c4] 68)).alloc (.cells #[.int .i64 vk,vb,vn.neg,vn.digits,.int .i64 vn.exp,vs,.slice Av vl.length ev,.slice Bv vm.length dv] 31)=w0 at*
   refine JT (S:=λW9=>Below w0.heap.size w0 W9) (by kernel_rfl) (show Below w0.heap.size w0 w0.drew from below_drewN (Ji _ _) 1) (λht=>?_);generalize w0.drew=w8 at*
   refine af 0 (.pointer (some ⟨w.heap.size+1,0,none⟩)) ht ?_ ?_
   .intro W9 hSw;go_simp
   try simp only[ab]
   refine af 1 (.int .i64 vk) ht ?_ ?_
   .intro W9 hSw;obtain⟨b0,b1,b2,b3,b4,b5,b6,b7⟩:=(HBV.out.on hSw).eight;have bl:=(HBV.out.on hSw).lt;go_simp
   try simp only[ab]
   refine af 2 (.bool false) ht ?_ ?_
   .intro W9 hSw;go_simp
   try simp only[ab]
   refine af 3 (.bool false) ht ?_ ?_
   .intro W9 hSw;go_simp
   try simp only[ab]
   refine dZ 4 ht ?_;try simp only[ab]
   refine dZ 5 ht ?_;try simp only[ab]
   refine dZ 6 ht ?_;try simp only[ab]
   refine dZ 7 ht ?_;try simp only[ab]
   refine dZ 8 ht ?_;try simp only[ab]
   refine dZ 9 ht ?_;try simp only[ab]
   refine dZ 10 ht ?_;try simp only[ab]
   refine dZ 11 ht ?_;try simp only[ab]
   refine af 12 (.bool false) ht ?_ ?_
   .intro W9 hSw;go_simp
   try simp only[ab]
   refine af 13 (.bool false) ht ?_ ?_
   .intro W9 hSw;go_simp
   try simp only[ab]
   refine Ke (by kernel_rfl) ?_ _;have HB2:=Jf (HB0.out.trans (ht.mono HB0.out.size));clear ht;go_wp2_with fail;go_ret;exact⟨by rw[HRES.out];rfl,HB2.out⟩
 have f5:(nm==[109,105,110,76,101,110,103,116,104])=false:=by rw[Jp];exact hnm
 clear hnm;by_cases hnm:nm=[109,97,120,76,101,110,103,116,104]
 .have f6:(nm==[109,97,120,76,101,110,103,116,104])=true:=by rw[hnm];rfl
  by_cases hk2:vk=3
  .have g1:(vk==3)=true:=by simpa using hk2
   obtain⟨c,hc⟩:∃c,Nm.count (Ow.chars vs:Int)=c:=⟨_,rfl⟩;have hcm:Nm.May c:=by rw[<-hc];exact Nm.jR _ (by have:=Ow.qw vs;omega)
   have HL1:=Jf (λ(W:World) h=>ny vs W hvs h);rw[hc] at HL1;obtain⟨q,hq⟩:∃q,Nm.cmp c n=q:=⟨_,rfl⟩;obtain⟨z,hz⟩:∃z,decide (q>0)=z:=⟨_,rfl⟩;have HRES:=Jf (show Ow.aZ nm (.mk k b n s l m) (.mk vk vb vn vs vl vm)=z by
    rw[hnm,<-hz,<-hq,<-Nm.fE _ _ hcm HNK.out,<-hc,hk2];rfl)
   have HZB:=Jf (show(Value.bool z)=Value.bool (decide (q>0)) by rw[hz]);have HC:=Jf (λ(W:World)=>jQ c.neg c.digits c.exp n.neg n.digits n.exp W hcm.fair HNK.out.fair);rw[show Nm.cmp ⟨c.neg,c.digits,c.exp⟩ ⟨n.neg,n.digits,n.exp⟩=q from hq] at HC;unfold gr at HL1;clear hq hnm hk2 hc hcm hz;have HBK:=Jf ((Blk.new w 68 #[nm,.int .i64 k,b,n.neg,n.digits,.int .i64 n.exp,s,.slice A l.length e,.slice B m.length d,.slice A4 n4 c4]).alloc (.cells #[.int .i64 vk,vb,vn.neg,vn.digits,.int .i64 vn.exp,vs,.slice Av vl.length ev,.slice Bv vm.length dv] 31));have HBV:=Jf (Blk.cW w (.cells #[nm,.int .i64 k,b,n.neg,n.digits,.int .i64 n.exp,s,.slice A l.length e,.slice B m.length d,.slice A4 n4 c4] 68) 31 #[.int .i64 vk,vb,vn.neg,vn.digits,.int .i64 vn.exp,vs,.slice Av vl.length ev,.slice Bv vm.length dv]);go_enter Tryz.func23,Tryz.ntmps23;go_upto_region 15 with(fail);generalize (w.alloc (.cells #[nm,.int .i64 k,b,n.neg,n.digits,.int .i64 n.exp,s,.slice A l.length e,.slice B m.length d,.slice A4 n4 c4] 68)).alloc (.cells #[.int .i64 vk,vb,vn.neg,vn.digits,.int .i64 vn.exp,vs,.slice Av vl.length ev,.slice Bv vm.length dv] 31)=w0 at*
   refine JT (S:=λW9=>Below w0.heap.size w0 W9) (by kernel_rfl) (show Below w0.heap.size w0 w0.drew from below_drewN (Ji _ _) 1) (λht=>?_);generalize w0.drew=w8 at*
   refine af 0 (.pointer (some ⟨w.heap.size+1,0,none⟩)) ht ?_ ?_
   .intro W9 hSw;go_simp
   try simp only[ab]
   refine af 1 (.int .i64 vk) ht ?_ ?_
   .intro W9 hSw;obtain⟨b0,b1,b2,b3,b4,b5,b6,b7⟩:=(HBV.out.on hSw).eight;have bl:=(HBV.out.on hSw).lt;go_simp
   try simp only[ab]
   refine af 2 (.bool true) ht ?_ ?_
   .intro W9 hSw;go_simp
   try simp only[ab]
   refine af 3 (.bool true) ht ?_ ?_
   .intro W9 hSw;go_simp
   try simp only[ab]
   refine af 4 (.pointer (some ⟨w.heap.size+1,5,none⟩)) ht ?_ ?_
   .intro W9 hSw;go_simp
   try simp only[ab]
   refine af 5 (.string ⟨vs.toArray⟩) ht ?_ ?_
   .intro W9 hSw;obtain⟨b0,b1,b2,b3,b4,b5,b6,b7⟩:=(HBV.out.on hSw).eight;have bl:=(HBV.out.on hSw).lt;go_simp
   try simp only[ab]
   refine af 7 (.pointer (some ⟨w.heap.size,1,none⟩)) ht ?_ ?_
   .intro W9 hSw;go_simp
   try simp only[ab]
   refine af 8 (.pointer (some ⟨w.heap.size,3,none⟩)) ht ?_ ?_
   .intro W9 hSw;go_simp
   try simp only[ab]
   refine af 9 (.agg #[n.neg,n.digits,.int .i64 n.exp]) ht ?_ ?_
   .intro W9 hSw;obtain⟨a0,a1,a2,a3,a4,a5,a6,a7,a8,a9⟩:=(HBK.out.on hSw).yR;have al:=(HBK.out.on hSw).lt;go_simp
   try simp only[ab]
   refine bz 6 λK hK=>?_;go_simp;refine(HL1.out _ (HT.out.keep (HB0.out.trans (ht.mono HB0.out.size)))).mono ?_;rintro e2 w2 ⟨rfl,hb2⟩;have hs:=ht.trans (hb2.mono ht.size);clear ht hb2;go_wp2_with fail;refine hK.out _ _ hs (λht=>?_);clear hK K hs;try simp only[ab]
   refine bz 10 λK hK=>?_;go_simp;refine(HC.out _).mono ?_;rintro e3 w3 ⟨rfl,hb3⟩;have hs:=ht.trans (hb3.mono ht.size);clear ht hb3;go_wp2_with fail;refine hK.out _ _ hs (λht=>?_);clear hK K hs;try simp only[ab]
   refine af 11 (.bool z) ht ?_ ?_
   .intro W9 hSw;rw[HZB.out];go_simp
   try simp only[ab]
   refine af 12 (.bool z) ht ?_ ?_
   .intro W9 hSw;go_simp
   try simp only[ab]
   refine af 13 (.bool z) ht ?_ ?_
   .intro W9 hSw;go_simp
   try simp only[ab]
   refine Ke (by kernel_rfl) ?_ _;have HB2:=Jf (HB0.out.trans (ht.mono HB0.out.size));clear ht;go_wp2_with fail;go_ret;exact⟨by rw[HRES.out];rfl,HB2.out⟩
  .have g1:(vk==3)=false:=by simpa using hk2
   have HRES:=Jf (show Ow.aZ nm (.mk k b n s l m) (.mk vk vb vn vs vl vm)=false by rw[hnm];simp[Ow.aZ,Ow.pP,Ow.fX,Ow.gh,Sh.kindOf,hk2]);clear hnm hk2;have HBK:=Jf ((Blk.new w 68 #[nm,.int .i64 k,b,n.neg,n.digits,.int .i64 n.exp,s,.slice A l.length e,.slice B m.length d,.slice A4 n4 c4]).alloc (.cells #[.int .i64 vk,vb,vn.neg,vn.digits,.int .i64 vn.exp,vs,.slice Av vl.length ev,.slice Bv vm.length dv] 31));have HBV:=Jf (Blk.cW w (.cells #[nm,.int .i64 k,b,n.neg,n.digits,.int .i64 n.exp,s,.slice A l.length e,.slice B m.length d,.slice A4 n4 c4] 68) 31 #[.int .i64 vk,vb,vn.neg,vn.digits,.int .i64 vn.exp,vs,.slice Av vl.length ev,.slice Bv vm.length dv]);go_enter Tryz.func23,Tryz.ntmps23;go_upto_region 15 with(fail);generalize (w.alloc (.cells #[nm,.int .i64 k,b,n.neg,n.digits,.int .i64 n.exp,s,.slice A l.length e,.slice B m.length d,.slice A4 n4 c4] 68)).alloc (.cells #[.int .i64 vk,vb,vn.neg,vn.digits,.int .i64 vn.exp,vs,.slice Av vl.length ev,.slice Bv vm.length dv] 31)=w0 at*
   refine JT (S:=λW9=>Below w0.heap.size w0 W9) (by kernel_rfl) (show Below w0.heap.size w0 w0.drew from below_drewN (Ji _ _) 1) (λht=>?_);generalize w0.drew=w8 at*
   refine af 0 (.pointer (some ⟨w.heap.size+1,0,none⟩)) ht ?_ ?_
   .intro W9 hSw;go_simp
   try simp only[ab]
   refine af 1 (.int .i64 vk) ht ?_ ?_
   .intro W9 hSw;obtain⟨b0,b1,b2,b3,b4,b5,b6,b7⟩:=(HBV.out.on hSw).eight;have bl:=(HBV.out.on hSw).lt;go_simp
   try simp only[ab]
   refine af 2 (.bool false) ht ?_ ?_
   .intro W9 hSw;go_simp
   try simp only[ab]
   refine af 3 (.bool false) ht ?_ ?_
   .intro W9 hSw;go_simp
   try simp only[ab]
   refine dZ 4 ht ?_;try simp only[ab]
   refine dZ 5 ht ?_;try simp only[ab]
   refine dZ 6 ht ?_;try simp only[ab]
   refine dZ 7 ht ?_;try simp only[ab]
   refine dZ 8 ht ?_;try simp only[ab]
   refine dZ 9 ht ?_;try simp only[ab]
   refine dZ 10 ht ?_;try simp only[ab]
   refine dZ 11 ht ?_;try simp only[ab]
   refine af 12 (.bool false) ht ?_ ?_
   .intro W9 hSw;go_simp
   try simp only[ab]
   refine af 13 (.bool false) ht ?_ ?_
   .intro W9 hSw;go_simp
   try simp only[ab]
   refine Ke (by kernel_rfl) ?_ _;have HB2:=Jf (HB0.out.trans (ht.mono HB0.out.size));clear ht;go_wp2_with fail;go_ret;exact⟨by rw[HRES.out];rfl,HB2.out⟩
 have f6:(nm==[109,97,120,76,101,110,103,116,104])=false:=by rw[Jp];exact hnm
 clear hnm;by_cases hnm:nm=[109,105,110,73,116,101,109,115]
 .have f7:(nm==[109,105,110,73,116,101,109,115])=true:=by rw[hnm];rfl
  by_cases hk2:vk=4
  .have g1:(vk==4)=true:=by simpa using hk2
   obtain⟨c,hc⟩:∃c,Nm.count (vl.length:Int)=c:=⟨_,rfl⟩;have hcm:Nm.May c:=by rw[<-hc];exact Nm.jR _ (by omega)
   have HL1:=Jf (λ(W:World) h=>AD (vl.length:Int) W (by omega) (by omega) h);rw[show(Nm.parse (Lib.itoa (vl.length:Int))).1=c from hc] at HL1;obtain⟨q,hq⟩:∃q,Nm.cmp c n=q:=⟨_,rfl⟩;obtain⟨z,hz⟩:∃z,decide (q<0)=z:=⟨_,rfl⟩;have HRES:=Jf (show Ow.aZ nm (.mk k b n s l m) (.mk vk vb vn vs vl vm)=z by
    rw[hnm,<-hz,<-hq,<-Nm.fE _ _ hcm HNK.out,<-hc,hk2];rfl)
   have HZB:=Jf (show(Value.bool z)=Value.bool (decide (q<0)) by rw[hz]);have HC:=Jf (λ(W:World)=>jQ c.neg c.digits c.exp n.neg n.digits n.exp W hcm.fair HNK.out.fair);rw[show Nm.cmp ⟨c.neg,c.digits,c.exp⟩ ⟨n.neg,n.digits,n.exp⟩=q from hq] at HC;unfold gr at HL1;clear hq hnm hk2 hc hcm hz;have HBK:=Jf ((Blk.new w 68 #[nm,.int .i64 k,b,n.neg,n.digits,.int .i64 n.exp,s,.slice A l.length e,.slice B m.length d,.slice A4 n4 c4]).alloc (.cells #[.int .i64 vk,vb,vn.neg,vn.digits,.int .i64 vn.exp,vs,.slice Av vl.length ev,.slice Bv vm.length dv] 31));have HBV:=Jf (Blk.cW w (.cells #[nm,.int .i64 k,b,n.neg,n.digits,.int .i64 n.exp,s,.slice A l.length e,.slice B m.length d,.slice A4 n4 c4] 68) 31 #[.int .i64 vk,vb,vn.neg,vn.digits,.int .i64 vn.exp,vs,.slice Av vl.length ev,.slice Bv vm.length dv]);go_enter Tryz.func23,Tryz.ntmps23;go_upto_region 17 with(fail);generalize (w.alloc (.cells #[nm,.int .i64 k,b,n.neg,n.digits,.int .i64 n.exp,s,.slice A l.length e,.slice B m.length d,.slice A4 n4 c4] 68)).alloc (.cells #[.int .i64 vk,vb,vn.neg,vn.digits,.int .i64 vn.exp,vs,.slice Av vl.length ev,.slice Bv vm.length dv] 31)=w0 at*
   refine JT (S:=λW9=>Below w0.heap.size w0 W9) (by kernel_rfl) (show Below w0.heap.size w0 w0.drew from below_drewN (Ji _ _) 1) (λht=>?_);generalize w0.drew=w8 at*
   refine af 0 (.pointer (some ⟨w.heap.size+1,0,none⟩)) ht ?_ ?_
   .intro W9 hSw;go_simp
   try simp only[ab]
   refine af 1 (.int .i64 vk) ht ?_ ?_
   .intro W9 hSw;obtain⟨b0,b1,b2,b3,b4,b5,b6,b7⟩:=(HBV.out.on hSw).eight;have bl:=(HBV.out.on hSw).lt;go_simp
   try simp only[ab]
   refine af 2 (.bool true) ht ?_ ?_
   .intro W9 hSw;go_simp
   try simp only[ab]
   refine af 3 (.bool true) ht ?_ ?_
   .intro W9 hSw;go_simp
   try simp only[ab]
   refine af 4 (.pointer (some ⟨w.heap.size+1,6,none⟩)) ht ?_ ?_
   .intro W9 hSw;go_simp
   try simp only[ab]
   refine af 5 (.slice Av vl.length ev) ht ?_ ?_
   .intro W9 hSw;obtain⟨b0,b1,b2,b3,b4,b5,b6,b7⟩:=(HBV.out.on hSw).eight;have bl:=(HBV.out.on hSw).lt;go_simp
   try simp only[ab]
   refine af 6 (.int .i64 vl.length) ht ?_ ?_
   .intro W9 hSw;go_simp
   try simp only[ab]
   refine af 8 (.pointer (some ⟨w.heap.size,1,none⟩)) ht ?_ ?_
   .intro W9 hSw;go_simp
   try simp only[ab]
   refine af 9 (.pointer (some ⟨w.heap.size,3,none⟩)) ht ?_ ?_
   .intro W9 hSw;go_simp
   try simp only[ab]
   refine af 10 (.agg #[n.neg,n.digits,.int .i64 n.exp]) ht ?_ ?_
   .intro W9 hSw;obtain⟨a0,a1,a2,a3,a4,a5,a6,a7,a8,a9⟩:=(HBK.out.on hSw).yR;have al:=(HBK.out.on hSw).lt;go_simp
   try simp only[ab]
   refine bz 7 λK hK=>?_;go_simp;refine(HL1.out _ (HT.out.keep (HB0.out.trans (ht.mono HB0.out.size)))).mono ?_;rintro e2 w2 ⟨rfl,hb2⟩;have hs:=ht.trans (hb2.mono ht.size);clear ht hb2;go_wp2_with fail;refine hK.out _ _ hs (λht=>?_);clear hK K hs;try simp only[ab]
   refine bz 11 λK hK=>?_;go_simp;refine(HC.out _).mono ?_;rintro e3 w3 ⟨rfl,hb3⟩;have hs:=ht.trans (hb3.mono ht.size);clear ht hb3;go_wp2_with fail;refine hK.out _ _ hs (λht=>?_);clear hK K hs;try simp only[ab]
   refine af 12 (.bool z) ht ?_ ?_
   .intro W9 hSw;rw[HZB.out];go_simp
   try simp only[ab]
   refine af 13 (.bool z) ht ?_ ?_
   .intro W9 hSw;go_simp
   try simp only[ab]
   refine af 14 (.bool z) ht ?_ ?_
   .intro W9 hSw;go_simp
   try simp only[ab]
   refine Ke (by kernel_rfl) ?_ _;have HB2:=Jf (HB0.out.trans (ht.mono HB0.out.size));clear ht;go_wp2_with fail;go_ret;exact⟨by rw[HRES.out];rfl,HB2.out⟩
  .have g1:(vk==4)=false:=by simpa using hk2
   have HRES:=Jf (show Ow.aZ nm (.mk k b n s l m) (.mk vk vb vn vs vl vm)=false by rw[hnm];simp[Ow.aZ,Ow.pP,Ow.fX,Ow.gh,Sh.kindOf,hk2]);clear hnm hk2;have HBK:=Jf ((Blk.new w 68 #[nm,.int .i64 k,b,n.neg,n.digits,.int .i64 n.exp,s,.slice A l.length e,.slice B m.length d,.slice A4 n4 c4]).alloc (.cells #[.int .i64 vk,vb,vn.neg,vn.digits,.int .i64 vn.exp,vs,.slice Av vl.length ev,.slice Bv vm.length dv] 31));have HBV:=Jf (Blk.cW w (.cells #[nm,.int .i64 k,b,n.neg,n.digits,.int .i64 n.exp,s,.slice A l.length e,.slice B m.length d,.slice A4 n4 c4] 68) 31 #[.int .i64 vk,vb,vn.neg,vn.digits,.int .i64 vn.exp,vs,.slice Av vl.length ev,.slice Bv vm.length dv]);go_enter Tryz.func23,Tryz.ntmps23;go_upto_region 17 with(fail);generalize (w.alloc (.cells #[nm,.int .i64 k,b,n.neg,n.digits,.int .i64 n.exp,s,.slice A l.length e,.slice B m.length d,.slice A4 n4 c4] 68)).alloc (.cells #[.int .i64 vk,vb,vn.neg,vn.digits,.int .i64 vn.exp,vs,.slice Av vl.length ev,.slice Bv vm.length dv] 31)=w0 at*
   refine JT (S:=λW9=>Below w0.heap.size w0 W9) (by kernel_rfl) (show Below w0.heap.size w0 w0.drew from below_drewN (Ji _ _) 1) (λht=>?_);generalize w0.drew=w8 at*
   refine af 0 (.pointer (some ⟨w.heap.size+1,0,none⟩)) ht ?_ ?_
   .intro W9 hSw;go_simp
   try simp only[ab]
   refine af 1 (.int .i64 vk) ht ?_ ?_
   .intro W9 hSw;obtain⟨b0,b1,b2,b3,b4,b5,b6,b7⟩:=(HBV.out.on hSw).eight;have bl:=(HBV.out.on hSw).lt;go_simp
   try simp only[ab]
   refine af 2 (.bool false) ht ?_ ?_
   .intro W9 hSw;go_simp
   try simp only[ab]
   refine af 3 (.bool false) ht ?_ ?_
   .intro W9 hSw;go_simp
   try simp only[ab]
   refine dZ 4 ht ?_;try simp only[ab]
   refine dZ 5 ht ?_;try simp only[ab]
   refine dZ 6 ht ?_;try simp only[ab]
   refine dZ 7 ht ?_;try simp only[ab]
   refine dZ 8 ht ?_;try simp only[ab]
   refine dZ 9 ht ?_;try simp only[ab]
   refine dZ 10 ht ?_;try simp only[ab]
   refine dZ 11 ht ?_;try simp only[ab]
   refine dZ 12 ht ?_;try simp only[ab]
   refine af 13 (.bool false) ht ?_ ?_
   .intro W9 hSw;go_simp
   try simp only[ab]
   refine af 14 (.bool false) ht ?_ ?_
   .intro W9 hSw;go_simp
   try simp only[ab]
   refine Ke (by kernel_rfl) ?_ _;have HB2:=Jf (HB0.out.trans (ht.mono HB0.out.size));clear ht;go_wp2_with fail;go_ret;exact⟨by rw[HRES.out];rfl,HB2.out⟩
 have f7:(nm==[109,105,110,73,116,101,109,115])=false:=by rw[Jp];exact hnm
 clear hnm;by_cases hnm:nm=[109,97,120,73,116,101,109,115]
 .have f8:(nm==[109,97,120,73,116,101,109,115])=true:=by rw[hnm];rfl
  by_cases hk2:vk=4
  .have g1:(vk==4)=true:=by simpa using hk2
   obtain⟨c,hc⟩:∃c,Nm.count (vl.length:Int)=c:=⟨_,rfl⟩;have hcm:Nm.May c:=by rw[<-hc];exact Nm.jR _ (by omega)
   have HL1:=Jf (λ(W:World) h=>AD (vl.length:Int) W (by omega) (by omega) h);rw[show(Nm.parse (Lib.itoa (vl.length:Int))).1=c from hc] at HL1;obtain⟨q,hq⟩:∃q,Nm.cmp c n=q:=⟨_,rfl⟩;obtain⟨z,hz⟩:∃z,decide (q>0)=z:=⟨_,rfl⟩;have HRES:=Jf (show Ow.aZ nm (.mk k b n s l m) (.mk vk vb vn vs vl vm)=z by
    rw[hnm,<-hz,<-hq,<-Nm.fE _ _ hcm HNK.out,<-hc,hk2];rfl)
   have HZB:=Jf (show(Value.bool z)=Value.bool (decide (q>0)) by rw[hz]);have HC:=Jf (λ(W:World)=>jQ c.neg c.digits c.exp n.neg n.digits n.exp W hcm.fair HNK.out.fair);rw[show Nm.cmp ⟨c.neg,c.digits,c.exp⟩ ⟨n.neg,n.digits,n.exp⟩=q from hq] at HC;unfold gr at HL1;clear hq hnm hk2 hc hcm hz;have HBK:=Jf ((Blk.new w 68 #[nm,.int .i64 k,b,n.neg,n.digits,.int .i64 n.exp,s,.slice A l.length e,.slice B m.length d,.slice A4 n4 c4]).alloc (.cells #[.int .i64 vk,vb,vn.neg,vn.digits,.int .i64 vn.exp,vs,.slice Av vl.length ev,.slice Bv vm.length dv] 31));have HBV:=Jf (Blk.cW w (.cells #[nm,.int .i64 k,b,n.neg,n.digits,.int .i64 n.exp,s,.slice A l.length e,.slice B m.length d,.slice A4 n4 c4] 68) 31 #[.int .i64 vk,vb,vn.neg,vn.digits,.int .i64 vn.exp,vs,.slice Av vl.length ev,.slice Bv vm.length dv]);go_enter Tryz.func23,Tryz.ntmps23;go_upto_region 19 with(fail);generalize (w.alloc (.cells #[nm,.int .i64 k,b,n.neg,n.digits,.int .i64 n.exp,s,.slice A l.length e,.slice B m.length d,.slice A4 n4 c4] 68)).alloc (.cells #[.int .i64 vk,vb,vn.neg,vn.digits,.int .i64 vn.exp,vs,.slice Av vl.length ev,.slice Bv vm.length dv] 31)=w0 at*
   refine JT (S:=λW9=>Below w0.heap.size w0 W9) (by kernel_rfl) (show Below w0.heap.size w0 w0.drew from below_drewN (Ji _ _) 1) (λht=>?_);generalize w0.drew=w8 at*
   refine af 0 (.pointer (some ⟨w.heap.size+1,0,none⟩)) ht ?_ ?_
   .intro W9 hSw;go_simp
   try simp only[ab]
   refine af 1 (.int .i64 vk) ht ?_ ?_
   .intro W9 hSw;obtain⟨b0,b1,b2,b3,b4,b5,b6,b7⟩:=(HBV.out.on hSw).eight;have bl:=(HBV.out.on hSw).lt;go_simp
   try simp only[ab]
   refine af 2 (.bool true) ht ?_ ?_
   .intro W9 hSw;go_simp
   try simp only[ab]
   refine af 3 (.bool true) ht ?_ ?_
   .intro W9 hSw;go_simp
   try simp only[ab]
   refine af 4 (.pointer (some ⟨w.heap.size+1,6,none⟩)) ht ?_ ?_
   .intro W9 hSw;go_simp
   try simp only[ab]
   refine af 5 (.slice Av vl.length ev) ht ?_ ?_
   .intro W9 hSw;obtain⟨b0,b1,b2,b3,b4,b5,b6,b7⟩:=(HBV.out.on hSw).eight;have bl:=(HBV.out.on hSw).lt;go_simp
   try simp only[ab]
   refine af 6 (.int .i64 vl.length) ht ?_ ?_
   .intro W9 hSw;go_simp
   try simp only[ab]
   refine af 8 (.pointer (some ⟨w.heap.size,1,none⟩)) ht ?_ ?_
   .intro W9 hSw;go_simp
   try simp only[ab]
   refine af 9 (.pointer (some ⟨w.heap.size,3,none⟩)) ht ?_ ?_
   .intro W9 hSw;go_simp
   try simp only[ab]
   refine af 10 (.agg #[n.neg,n.digits,.int .i64 n.exp]) ht ?_ ?_
   .intro W9 hSw;obtain⟨a0,a1,a2,a3,a4,a5,a6,a7,a8,a9⟩:=(HBK.out.on hSw).yR;have al:=(HBK.out.on hSw).lt;go_simp
   try simp only[ab]
   refine bz 7 λK hK=>?_;go_simp;refine(HL1.out _ (HT.out.keep (HB0.out.trans (ht.mono HB0.out.size)))).mono ?_;rintro e2 w2 ⟨rfl,hb2⟩;have hs:=ht.trans (hb2.mono ht.size);clear ht hb2;go_wp2_with fail;refine hK.out _ _ hs (λht=>?_);clear hK K hs;try simp only[ab]
   refine bz 11 λK hK=>?_;go_simp;refine(HC.out _).mono ?_;rintro e3 w3 ⟨rfl,hb3⟩;have hs:=ht.trans (hb3.mono ht.size);clear ht hb3;go_wp2_with fail;refine hK.out _ _ hs (λht=>?_);clear hK K hs;try simp only[ab]
   refine af 12 (.bool z) ht ?_ ?_
   .intro W9 hSw;rw[HZB.out];go_simp
   try simp only[ab]
   refine af 13 (.bool z) ht ?_ ?_
   .intro W9 hSw;go_simp
   try simp only[ab]
   refine af 14 (.bool z) ht ?_ ?_
   .intro W9 hSw;go_simp
   try simp only[ab]
   refine Ke (by kernel_rfl) ?_ _;have HB2:=Jf (HB0.out.trans (ht.mono HB0.out.size));clear ht;go_wp2_with fail;go_ret;exact⟨by rw[HRES.out];rfl,HB2.out⟩
  .have g1:(vk==4)=false:=by simpa using hk2
   have HRES:=Jf (show Ow.aZ nm (.mk k b n s l m) (.mk vk vb vn vs vl vm)=false by rw[hnm];simp[Ow.aZ,Ow.pP,Ow.fX,Ow.gh,Sh.kindOf,hk2]);clear hnm hk2;have HBK:=Jf ((Blk.new w 68 #[nm,.int .i64 k,b,n.neg,n.digits,.int .i64 n.exp,s,.slice A l.length e,.slice B m.length d,.slice A4 n4 c4]).alloc (.cells #[.int .i64 vk,vb,vn.neg,vn.digits,.int .i64 vn.exp,vs,.slice Av vl.length ev,.slice Bv vm.length dv] 31));have HBV:=Jf (Blk.cW w (.cells #[nm,.int .i64 k,b,n.neg,n.digits,.int .i64 n.exp,s,.slice A l.length e,.slice B m.length d,.slice A4 n4 c4] 68) 31 #[.int .i64 vk,vb,vn.neg,vn.digits,.int .i64 vn.exp,vs,.slice Av vl.length ev,.slice Bv vm.length dv]);go_enter Tryz.func23,Tryz.ntmps23;go_upto_region 19 with(fail);generalize (w.alloc (.cells #[nm,.int .i64 k,b,n.neg,n.digits,.int .i64 n.exp,s,.slice A l.length e,.slice B m.length d,.slice A4 n4 c4] 68)).alloc (.cells #[.int .i64 vk,vb,vn.neg,vn.digits,.int .i64 vn.exp,vs,.slice Av vl.length ev,.slice Bv vm.length dv] 31)=w0 at*
   refine JT (S:=λW9=>Below w0.heap.size w0 W9) (by kernel_rfl) (show Below w0.heap.size w0 w0.drew from below_drewN (Ji _ _) 1) (λht=>?_);generalize w0.drew=w8 at*
   refine af 0 (.pointer (some ⟨w.heap.size+1,0,none⟩)) ht ?_ ?_
   .intro W9 hSw;go_simp
   try simp only[ab]
   refine af 1 (.int .i64 vk) ht ?_ ?_
   .intro W9 hSw;obtain⟨b0,b1,b2,b3,b4,b5,b6,b7⟩:=(HBV.out.on hSw).eight;have bl:=(HBV.out.on hSw).lt;go_simp
   try simp only[ab]
   refine af 2 (.bool false) ht ?_ ?_
   .intro W9 hSw;go_simp
   try simp only[ab]
   refine af 3 (.bool false) ht ?_ ?_
   .intro W9 hSw;go_simp
   try simp only[ab]
   refine dZ 4 ht ?_;try simp only[ab]
   refine dZ 5 ht ?_;try simp only[ab]
   refine dZ 6 ht ?_;try simp only[ab]
   refine dZ 7 ht ?_;try simp only[ab]
   refine dZ 8 ht ?_;try simp only[ab]
   refine dZ 9 ht ?_;try simp only[ab]
   refine dZ 10 ht ?_;try simp only[ab]
   refine dZ 11 ht ?_;try simp only[ab]
   refine dZ 12 ht ?_;try simp only[ab]
   refine af 13 (.bool false) ht ?_ ?_
   .intro W9 hSw;go_simp
   try simp only[ab]
   refine af 14 (.bool false) ht ?_ ?_
   .intro W9 hSw;go_simp
   try simp only[ab]
   refine Ke (by kernel_rfl) ?_ _;have HB2:=Jf (HB0.out.trans (ht.mono HB0.out.size));clear ht;go_wp2_with fail;go_ret;exact⟨by rw[HRES.out];rfl,HB2.out⟩
 have f8:(nm==[109,97,120,73,116,101,109,115])=false:=by rw[Jp];exact hnm
 clear hnm;by_cases hnm:nm=[117,110,105,113,117,101,73,116,101,109,115]
 .have f9:(nm==[117,110,105,113,117,101,73,116,101,109,115])=true:=by rw[hnm];rfl
  have HXV0:=Jf (In.keep (aa HB0.out) _ _ HXV.out);have HXK0:=Jf (In.keep (aa HB0.out) _ _ HXK.out);have HLK0:=Jf (HLK.out.keep (aa HB0.out));have HLV0:=Jf (HLV.out.keep (aa HB0.out));cases b with
  |false=>
   have HRES:=Jf (show Ow.aZ nm (.mk k false n s l m) (.mk vk vb vn vs vl vm)=false by rw[hnm];simp[Ow.aZ,Ow.pP,Ow.fX,Ow.gh,Ow.EP]);clear hnm;go_enter Tryz.func23,Tryz.ntmps23;go_wp2_with fail;go_ret;exact⟨by rw[HRES.out];rfl,HB0.out⟩
  |true=>
   by_cases hk2:vk=4
   .have g1:(vk==4)=true:=by simpa using hk2
    have HC:=Jf (λ(W:World) h1=>vo vl Av ev W h1 HMVL.out hvl);obtain⟨q,hq⟩:∃q,Ow.dup [] vl=q:=⟨_,rfl⟩;have HRES:=Jf (show Ow.aZ nm (.mk k true n s l m) (.mk vk vb vn vs vl vm)=q by rw[hnm,<-hq];show(Ow.dup [] vl&&true)=_;rw[Ls]);rw[hq] at HC;clear hq hnm hk2;go_enter Tryz.func23,Tryz.ntmps23;go_wp2_with fail;refine(HC.out _ HLV0.out).mono ?_;rintro e2 w2 ⟨rfl,hb2⟩;have HB2:=Jf (HB0.out.trans (hb2.mono HB0.out.size));clear hb2;go_wp2_with fail;go_ret;exact⟨by rw[HRES.out];rfl,HB2.out⟩
   .have g1:(vk==4)=false:=by simpa using hk2
    have HRES:=Jf (show Ow.aZ nm (.mk k true n s l m) (.mk vk vb vn vs vl vm)=false by
     rw[hnm,HVL4.out hk2];rfl)
    clear hnm hk2;go_enter Tryz.func23,Tryz.ntmps23;go_wp2_with fail;go_ret;exact⟨by rw[HRES.out];rfl,HB0.out⟩
 have f9:(nm==[117,110,105,113,117,101,73,116,101,109,115])=false:=by rw[Jp];exact hnm
 clear hnm;by_cases hnm:nm=[114,101,113,117,105,114,101,100]
 .have f10:(nm==[114,101,113,117,105,114,101,100])=true:=by rw[hnm];rfl
  have HXV0:=Jf (In.keep (aa HB0.out) _ _ HXV.out);have HXK0:=Jf (In.keep (aa HB0.out) _ _ HXK.out);have HLK0:=Jf (HLK.out.keep (aa HB0.out));have HLV0:=Jf (HLV.out.keep (aa HB0.out));by_cases hk2:vk=5
  .have g1:(vk==5)=true:=by simpa using hk2
   have HC:=Jf (λ(W:World) h1 h2=>D2 (.mk vk vb vn vs vl vm) l (.agg #[.int .i64 vk,vb,vn.neg,vn.digits,.int .i64 vn.exp,vs,.slice Av vl.length ev,.slice Bv vm.length dv]) A e W HMV.out HSZ.out HMKL.out h1 h2 HQ.out.1 HQ.out.2);obtain⟨q,hq⟩:∃q,(l.any λu=>((Vl.mk vk vb vn vs vl vm).find (Sh.strOf u)).isNone)=q:=⟨_,rfl⟩;have HRES:=Jf (show Ow.aZ nm (.mk k b n s l m) (.mk vk vb vn vs vl vm)=q by rw[hnm,<-hq,hk2];rfl);rw[hq] at HC;clear hq hnm hk2;go_enter Tryz.func23,Tryz.ntmps23;go_wp2_with fail;refine(HC.out _ HXV0.out HLK0.out).mono ?_;rintro e2 w2 ⟨rfl,hb2⟩;have HB2:=Jf (HB0.out.trans (hb2.mono HB0.out.size));clear hb2;go_wp2_with fail;go_ret;exact⟨by rw[HRES.out];rfl,HB2.out⟩
  .have g1:(vk==5)=false:=by simpa using hk2
   have HRES:=Jf (show Ow.aZ nm (.mk k b n s l m) (.mk vk vb vn vs vl vm)=false by rw[hnm];simp[Ow.aZ,Ow.pP,Ow.fX,Ow.gh,Sh.kindOf,hk2]);clear hnm hk2;go_enter Tryz.func23,Tryz.ntmps23;go_wp2_with fail;go_ret;exact⟨by rw[HRES.out];rfl,HB0.out⟩
 have f10:(nm==[114,101,113,117,105,114,101,100])=false:=by rw[Jp];exact hnm
 clear hnm;have hno:∀x∈Ow.fX.map (·.1),nm≠x:=λx hx=>by
  simp only[Ow.fX,Kh,Lo,JB,Ky,Lk] at hx;rcases hx with rfl|rfl|rfl|rfl|rfl|rfl|rfl|rfl|rfl|rfl|rfl
  .exact Jp.1 f0
  .exact Jp.1 f1
  .exact Jp.1 f2
  .exact Jp.1 f3
  .exact Jp.1 f4
  .exact Jp.1 f5
  .exact Jp.1 f6
  .exact Jp.1 f7
  .exact Jp.1 f8
  .exact Jp.1 f9
  .exact Jp.1 f10
 have HRES:=Jf (show Ow.aZ nm (.mk k b n s l m) (.mk vk vb vn vs vl vm)=false by
  unfold Ow.aZ;rw[Ow.H9 hno];rfl)
 clear hno;go_enter Tryz.func23,Tryz.ntmps23;go_wp2_with fail;go_ret;exact⟨by rw[HRES.out];rfl,HB0.out⟩
end
section
open Go.RowKit Js Pt
theorem tu(pass:Bool)(w:World):Calls Tryz.prog 22 #[.bool pass] w λe w'=>∃(A:Option Addr) (c:Nat),e=.returned (.slice A (if pass=true then[] else[Ow.mr]).length c)/\aG w' w.heap.size A c (if pass=true then[] else[Ow.mr])/\Below w.heap.size w w':=by
 cases pass with
 |true=>
  have HZ:=Jf (aG.nil w w.heap.size);go_enter Tryz.func22,Tryz.ntmps22;go_wp2_with fail;go_ret;exact⟨none,0,rfl,HZ.out,Ji _ _⟩
 |false=>
  have HSA:=Jf (show aG (w.alloc (.cells #[.string ⟨#[102,97,108,115,101]⟩] 9)) w.heap.size (some ⟨w.heap.size,0,none⟩) 1 [Ow.mr] from⟨rfl,.inr ⟨_,_,_,rfl,Jh _,Blk.new w _ _,Jh _,by unfold maxLen;omega,rfl,rfl⟩⟩);have HB1:=Jf ((Ji w.heap.size w).alloc (Jh _) (.cells #[.string ⟨#[102,97,108,115,101]⟩] 9));go_enter Tryz.func22,Tryz.ntmps22;go_wp2_with fail;go_ret;exact⟨_,1,rfl,HSA.out,HB1.out⟩
theorem uc(P:Cm.Names)(tx:Jd)(nall npass:Bool)(keys:List Cm.Key)(A2:Option Addr)(c2:Nat)(v:Vl)(xv:Value)(w:World)(htab:Tab w)(hk:gS w.cell? A2 keys)(h1:keys.length<=c2)(h2:c2<=maxLen)(h3:keys.length<=1000000)(h4:∀K∈keys,iZ K.v)(hwv:iZ v)(hxv:v.In w.cell? xv)(hall:nall=true->keys=[]):
  Calls Tryz.prog 11 #[.agg #[.string ⟨tx.toArray⟩,.bool nall,.bool npass,.slice A2 keys.length c2],xv] w λe w'=>∃(A:Option Addr) (c:Nat),e=.returned (.slice A (Ow.own ⟨P,nall,npass,keys⟩ v).length c)/\aG w' w.heap.size A c (Ow.own ⟨P,nall,npass,keys⟩ v)/\Below w.heap.size w w':=by
 obtain⟨v_1,v_2,v_3,v_4,v_5,v_6,v_7,v_8,v_9,v_a,v_b,v_c,rfl⟩:=In.cells hxv;have HK:=Jf hk;have H4:=Jf h4;have HXV:=Jf hxv;have HWV:=Jf hwv;have HT0:=Jf htab;unfold maxLen at h2;have HB0:=Jf (((Ji w.heap.size w).alloc (Jh _) (.cells #[tx,nall,npass,.slice A2 keys.length c2] 39)).alloc (by simp) (.cells #[.int .i64 v_1,v_2,v_3,v_4,.int .i64 v_5,v_6,.slice v_7 v_8 v_9,.slice v_a v_b v_c] 31));have HN0:=Jf ((Blk.new w 39 #[tx,nall,npass,.slice A2 keys.length c2]).alloc (.cells #[.int .i64 v_1,v_2,v_3,v_4,.int .i64 v_5,v_6,.slice v_7 v_8 v_9,.slice v_a v_b v_c] 31));have HV0:=Jf (Blk.cW w (.cells #[tx,nall,npass,.slice A2 keys.length c2] 39) 31 #[.int .i64 v_1,v_2,v_3,v_4,.int .i64 v_5,v_6,.slice v_7 v_8 v_9,.slice v_a v_b v_c]);clear hk h4 hwv hxv htab;cases nall with
 |true=>
  have hk0:=hall rfl;subst hk0;have HCO:=Jf (show Ow.own ⟨P,true,npass,[]⟩ v=if npass=true then[] else[Ow.mr] by
   unfold Ow.own;cases npass<;>simp)
  have HBO:=Jf (λW=>tu npass W);generalize (if npass=true then[] else[Ow.mr])=r at*
  clear hall;go_enter Tryz.func11,Tryz.ntmps11;go_wp2_with fail;refine(HBO.out _).mono ?_;rintro e1 w1 ⟨A,c,rfl,hs1,hb1⟩;have HS1:=Jf (hs1.less HB0.out.size);have HB1:=Jf (HB0.out.trans (hb1.mono HB0.out.size));clear hs1 hb1;go_wp2_with fail;go_ret;exact⟨A,c,by rw[HCO.out];rfl,by rw[HCO.out];exact HS1.out,HB1.out⟩
 |false=>
 clear hall;have HCO:=Jf (show Ow.own ⟨P,false,npass,keys⟩ v=Ow.jU keys v by
  unfold Ow.own;simp;rfl)
 go_enter Tryz.func11,Tryz.ntmps11;go_wp2_with fail;generalize (w.alloc (.cells #[tx,false,npass,.slice A2 keys.length c2] 39)).alloc (.cells #[.int .i64 v_1,v_2,v_3,v_4,.int .i64 v_5,v_6,.slice v_7 v_8 v_9,.slice v_a v_b v_c] 31)=ws at*
 have HZ:=Jf (aG.nil ws ws.heap.size);have HT:=Jf (HT0.out.keep HB0.out)
 go_loopw [5,16] (λo5 i6 wr=>∃(q:Nat) (A5:Option Addr) (c5:Nat) (t:List Jd),o5=.slice A5 t.length c5/\i6=.int .i64 q/\q<=keys.length/\t=Ow.jU (keys.take q) v/\Below ws.heap.size ws wr/\aG wr ws.heap.size A5 c5 t) (λ_ i6 _=>keys.length-(intOf i6).toNat)
 case atStart=>exact⟨0,none,0,[],rfl,rfl,JE _,rfl,Ji _ _,HZ.out⟩
 case round=>
  obtain⟨q,A5,c5,t,rfl,rfl,hkq,ht,hbr,hsr⟩:=hrel;obtain⟨wz,hwz⟩:∃W,W=wr:=⟨_,rfl⟩;subst hwz;have HBR:=Jf hbr;have HSR:=Jf hsr;have HTE:=Jf ht;have HBW:=Jf (HB0.out.trans (hbr.mono HB0.out.size));clear hbr hsr ht HZ;obtain⟨z0,z1,z2,z3,z4,z5,z6,z7⟩:=(HV0.out.on HBR.out).eight;have zl:=(HV0.out.on HBR.out).lt;by_cases hkl:q<keys.length
  .obtain⟨g3,o3,cs3,rfl,hi3,hc3⟩:=HK.out q _ (Jg hkl);have HNX:=Jf (Ow.uZ (v:=v) hkl);have HWK:=Jf (H4.out _ (Jv hkl));have HTL:=Jf (show t.length<=1000000 by
    rw[HTE.out];have:=Ow.xp (keys.take q) v;rw[JL] at this;omega)
   have hkqi:(q:Int)<(keys.length:Int):=by omega
   generalize (keys[q]'hkl)=K at*
   obtain⟨nm,kv,kids⟩:=K;obtain⟨k,b,n,s,l,m⟩:=kv;obtain⟨r,A4,c4,rfl,hkv,_,_,_⟩:=hi3;simp only at HNX HWK hkv hc3;obtain⟨A,e,B,d,he,_⟩:=In.form hkv;unfold vlV at he;injection he with he;subst he;have HKV:=Jf hkv;have hle:=aa HBW.out;have y0:wz.cell? ⟨g3,o3+q*10+0,none⟩=some (.string ⟨nm.toArray⟩):=hle _ _ (hc3 0 _ rfl);rw[Kx] at y0;have y1:wz.cell? ⟨g3,o3+q*10+1,none⟩=some (.int .i64 k):=hle _ _ (hc3 1 _ rfl);have y2:wz.cell? ⟨g3,o3+q*10+2,none⟩=some (.bool b):=hle _ _ (hc3 2 _ rfl);have y3:wz.cell? ⟨g3,o3+q*10+3,none⟩=some (.bool n.neg):=hle _ _ (hc3 3 _ rfl);have y4:wz.cell? ⟨g3,o3+q*10+4,none⟩=some (.string ⟨n.digits.toArray⟩):=hle _ _ (hc3 4 _ rfl);have y5:wz.cell? ⟨g3,o3+q*10+5,none⟩=some (.int .i64 n.exp):=hle _ _ (hc3 5 _ rfl);have y6:wz.cell? ⟨g3,o3+q*10+6,none⟩=some (.string ⟨s.toArray⟩):=hle _ _ (hc3 6 _ rfl);have y7:wz.cell? ⟨g3,o3+q*10+7,none⟩=some (.slice A l.length e):=hle _ _ (hc3 7 _ rfl);have y8:wz.cell? ⟨g3,o3+q*10+8,none⟩=some (.slice B m.length d):=hle _ _ (hc3 8 _ rfl);have y9:wz.cell? ⟨g3,o3+q*10+9,none⟩=some (.slice A4 kids.length c4):=hle _ _ (hc3 9 _ rfl);have yl:=Jn _ _ y0;have HB1:=Jf (HBR.out.alloc HBR.out.size (.cells #[nm,.int .i64 k,b,n.neg,n.digits,.int .i64 n.exp,s,.slice A l.length e,.slice B m.length d,.slice A4 kids.length c4] 68));have HB1W:=Jf (HBW.out.alloc HBW.out.size (.cells #[nm,.int .i64 k,b,n.neg,n.digits,.int .i64 n.exp,s,.slice A l.length e,.slice B m.length d,.slice A4 kids.length c4] 68));have HKX:=Jf (Blk.new wz 68 #[nm,.int .i64 k,b,n.neg,n.digits,.int .i64 n.exp,s,.slice A l.length e,.slice B m.length d,.slice A4 kids.length c4]);have HFA:=Jf (xr nm k b n s l m A e B d A4 kids.length c4 v (.agg #[.int .i64 v_1,v_2,v_3,v_4,.int .i64 v_5,v_6,.slice v_7 v_8 v_9,.slice v_a v_b v_c]) (wz.alloc (.cells #[nm,.int .i64 k,b,n.neg,n.digits,.int .i64 n.exp,s,.slice A l.length e,.slice B m.length d,.slice A4 kids.length c4] 68)) HWK.out.1 HWV.out (In.keep (aa HB1W.out) _ _ HKV.out) (In.keep (aa HB1W.out) _ _ HXV.out) (HT0.out.keep HB1W.out));obtain⟨fb,hfb⟩:∃q,Ow.aZ nm (.mk k b n s l m) v=q:=⟨_,rfl⟩;rw[hfb] at HFA HNX;clear hkv hc3 hle hfb;go_wp2_with fail;refine HFA.out.mono ?_;rintro e2 w2 ⟨rfl,hb2⟩;have HB2:=Jf (HB1.out.trans (hb2.mono HB1.out.size));have HS2:=Jf ((HSR.out.on ((Ji wz.heap.size wz).alloc (Jh _) (.cells #[nm,.int .i64 k,b,n.neg,n.digits,.int .i64 n.exp,s,.slice A l.length e,.slice B m.length d,.slice A4 kids.length c4] 68))).on hb2);have HKX2:=Jf (HKX.out.on hb2);clear hb2 y0 y1 y2 y3 y4 y5 y6 y7 y8 y9 yl z0 z1 z2 z3 z4 z5 z6 z7 zl;cases fb with
   |false=>
    go_wp2_with fail;go_roundw;case rel=>exact⟨q+1,A5,c5,t,rfl,by go_num,by omega,by rw[HNX.out,HTE.out];simp,HB2.out,HS2.out⟩
    case measure=>simp[intOf];omega
   |true=>
    obtain⟨y0,y1,y2,y3,y4,y5,y6,y7,y8,y9⟩:=HKX2.out.yR;have yl:=HKX2.out.lt;have hb7:=(Ji w2.heap.size w2).alloc (Jh _) (.cells #[.string ⟨nm.toArray⟩] 9);have HB7:=Jf (HB2.out.trans (hb7.mono HB2.out.size));have HS7:=Jf (HS2.out.on hb7);have HNW:=Jf (Blk.new w2 9 #[.string ⟨nm.toArray⟩]);have HSR1:=Jf (show qk (w2.alloc (.cells #[.string ⟨nm.toArray⟩] 9)) (some ⟨w2.heap.size,0,none⟩) 1 (aB [nm]) from⟨(λe=>by cases e),λad e j u hu=>by injection e with e;subst e;exact JU HNW.out j u hu⟩);have HSZ:=Jf (show ws.heap.size<=(w2.alloc (.cells #[.string ⟨nm.toArray⟩] 9)).heap.size from HB7.out.size);have HLN:=Jf (show t.length+1<=maxLen/\(t.length+1)*16<=140737488355328 from by have:=HTL.out;unfold maxLen;omega);obtain⟨i0,hi0,hz0,hz1,hz2⟩:=jC;clear hb7;go_wp2_with (at_builtin;refine bN _ rfl _ _ _ rfl ws.heap.size 9 i0 _ 1 16 Tryz.underlying40 hi0 hz0 hz1 hz2 rfl (by decide) (.slice A5 t.length c5) t.length (aB t) rfl HS7.out (some ⟨w2.heap.size,0,none⟩) 1 1 (aB [nm]) rfl rfl HSR1.out (iB _) HLN.out.1 HLN.out.2 HSZ.out (t.length+1) rfl ?_;intro A8 c8 x8 hown hgr;have HOWN:=Jf hown;have HGR:=Jf hgr;clear hown hgr);have HB8:=Jf (show Below ws.heap.size ws x8 from HB7.out.grown HGR.out HB7.out.size (λb hb=>by
     cases A5 with
     |none=>cases hb
     |some ad=>
      obtain⟨g,rfl,hg,_⟩:=HSR.out.le.2.2 ad rfl;have:b=g:=by simpa[Value.ownBlock] using hb.symm
      omega))
    have HS8:=Jf (show aG x8 ws.heap.size A8 c8 (t++[nm]) by
     unfold aG;rw[show aB (t++[nm])=aB t++aB [nm] by simp[aB],Jk,Jy];exact HOWN.out)
    go_roundw;case rel=>exact⟨q+1,A8,c8,t++[nm],by rw[Jk];rfl,by go_num,by omega,by rw[HNX.out,HTE.out];rfl,HB8.out,HS8.out⟩
    case measure=>simp[intOf];omega
  .obtain rfl:q=keys.length:=by omega
   have HTT:=Jf (show Ow.own ⟨P,false,npass,keys⟩ v=t by rw[HCO.out,HTE.out,JC]);go_wp2_with fail;go_ret;exact⟨A5,c5,by rw[HTT.out];rfl,by rw[HTT.out];exact HSR.out.less HB0.out.size,HBW.out⟩
theorem FY:Ib Tab:=by
 intro P tx nall npass keys A2 c2 v xv w hg hk h1 h2 h3 h4 hv hxv hall;refine(uc P tx nall npass keys A2 c2 v xv w hg hk h1 h2 h3 h4 hv hxv hall).mono ?_;rintro e w' ⟨A,c,rfl,hs,hb⟩;exact⟨A,c,rfl,hs.strs,hs.le.1,hs.le.2.1,hb⟩
end
