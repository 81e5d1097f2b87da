import Derived.Test.YtdhgmaonolgpnaaGreatDoorKa
set_option linter.unusedSimpArgs false
namespace Go.Proofs.YtdhgmaonolgpnaaGreatDoor
namespace Ps
open Js
def Az(t:Jd):Jd:=if t.head?=some 45 then t.tail else t
theorem Ck(t:Jd):Lib.trimPrefix t [45]=Az t:=by
 unfold Lib.trimPrefix Az;cases t with
 |nil=>simp[Lib.hasPrefix]
 |cons c u=>
  by_cases h:c=45
  .subst h;simp[Lib.hasPrefix]
  .simp[Lib.hasPrefix,h]
   exactλe=>h e.symm
def Stop(x:Jd):Prop:=∀c,x.head?=some c->Nm.dig c=false/\c≠46/\c≠101/\c≠69
theorem G0{x:Jd}(hx:Stop x):Nm.pre x=[]/\Nm.suf x=x:=by
 cases x with
 |nil=>exact⟨rfl,rfl⟩
 |cons c r=>
  have:=(hx c rfl).1;simp[Nm.pre,Nm.suf,this]
theorem lz{x:Jd}(hx:Stop x)(t:Jd):Nm.pre (t++x)=Nm.pre t/\Nm.suf (t++x)=Nm.suf t++x:=by
 induction t with
 |nil=>have:=G0 hx;simpa[Nm.pre,Nm.suf] using this
 |cons c t ih=>
  cases h:Nm.dig c with
  |true=>simp only[Nm.pre,Nm.suf,JS] at ih ⊢;simp[h,ih.1,ih.2]
  |false=>simp[Nm.pre,Nm.suf,h]
theorem qD{x:Jd}(hx:Stop x){t:Jd}(h:(Nm.cO t).2=true):Nm.cO (t++x)=((Nm.cO t).1++x,true):=by
 cases t with
 |nil=>
  cases x with
  |nil=>rfl
  |cons c r=>
   have:=hx c rfl;simp[Nm.cO,this.2.2.1,this.2.2.2]
 |cons c r=>
  simp only[Nm.cO] at h;simp only[JS,Nm.cO];by_cases hc:c=101\/c=69
  .rw[Jo hc] at h;rw[Jo hc,Jo hc];cases r with
   |nil=>simp[Nm.aU,Nm.pre] at h
   |cons d r=>
    have e:Nm.aU (d::r++x)=Nm.aU (d::r)++x:=by
     simp only[JS,Nm.aU];split<;>rfl
    rw[e,(lz hx _).1,(lz hx _).2];simp only at h;rw[h]
  .rw[Jj hc,Jj hc];rfl
theorem mV{x:Jd}(hx:Stop x){t:Jd}(h:(Nm.cG t).2=true):Nm.cG (t++x)=((Nm.cG t).1++x,true):=by
 have e:∀r,Nm.cG (46::r)=if(Nm.pre r).isEmpty then(Nm.suf r,false) else Nm.cO (Nm.suf r):=λ_=>rfl
 by_cases hc:t.head?=some 46
 .cases t with
  |nil=>cases hc
  |cons c r=>
   cases hc;rw[e] at h ⊢;rw[JS,e,(lz hx _).1,(lz hx _).2];by_cases hp:(Nm.pre r).isEmpty=true
   .rw[Jo hp] at h;cases h
   .rw[Jj hp] at h ⊢;rw[Jj hp];exact qD hx h
 .rw[Nm.ez t hc] at h ⊢;rw[Nm.ez (t++x),qD hx h];cases t with
  |nil=>
   intro h2;cases x with
   |nil=>cases h2
   |cons c r=>cases h2;exact(hx 46 rfl).2.1 rfl
  |cons c r=>simpa using hc
theorem FT{t:Jd}(x:Jd)(h:t≠[]):Az (t++x)=Az t++x:=by
 cases t with
 |nil=>exact absurd rfl h
 |cons c r=>
  unfold Az;by_cases hc:c=45<;>simp[hc]
theorem CI{x:Jd}(hx:Stop x){t:Jd}(h:(Nm.bA t).2=true):Nm.bA (t++x)=((Nm.bA t).1++x,true):=by
 unfold Nm.bA at h ⊢;simp only at h ⊢;rw[Ck] at h ⊢;rw[Ck];have hne:t≠[]:=by
  rintro rfl;simp[Az,Nm.pre] at h
 rw[FT x hne];generalize Az t=t1 at h ⊢;by_cases hp:(Nm.pre t1).isEmpty=true
 .rw[Jo hp] at h;cases h
 .rw[Jj hp] at h ⊢;rw[(lz hx t1).1,Jj hp];cases t1 with
  |nil=>simp[Nm.pre] at hp
  |cons c r=>
   by_cases hc:c=48
   .subst hc;simp only[KZ,KJ,MM,MV,JS] at h ⊢;exact mV hx h
   .simp only[KZ,JM,hc,Kq] at h;simp only[JS,KZ,JM,hc,Kq];rw[<-List.cons_append,(lz hx _).2];exact mV hx h
theorem AB{x:Jd}(hx:Stop x){t:Jd}{n:Nm.Num}{u:Jd}(h:number t=.ok n u):number (t++x)=.ok n (u++x):=by
 obtain⟨_,hr,hl,he,hu,hp⟩:=lx h;have e:=CI hx he;rw[<-hu] at e;unfold number;rw[e];have hlen:(t++x).length-(u++x).length=t.length-u.length:=by simp only[Jk];omega
 simp only[hlen];rw[MI (by omega),hp];simp
theorem FE(w u:Jd):lit w (w++u)=.ok () u:=by
 induction w with
 |nil=>cases u<;>rfl
 |cons c w ih=>simp[lit,ih]
theorem vx{w t u:Jd}{y:Unit}(x:Jd)(h:lit w t=.ok y u):lit w (t++x)=.ok y (u++x):=by
 rw[jj h,Ko,FE]
theorem oC{t o u:Jd}(x:Jd)(h:bn t=.ok o u):bn (t++x)=.ok o (u++x):=by
 cases t with
 |nil=>cases h
 |cons c v=>
  by_cases hc:c=34
  .subst hc;simp only[bn,Jo,JS] at h ⊢;cases hr:St.run (v.length+1) v [] 1 with
   |bad k p=>rw[hr] at h;cases h
   |ok o' p=>
    rw[hr] at h;injection h with h1 h2;subst h1 h2;rw[St.sv _ _ _ _ hr ((v++x).length+1) x (by simp)];have hp:=St.iz _ _ _ _ hr;simp only;rw[<-List.cons_append,List.drop_append_of_le_length (by simp only[Jl];omega)]
  .simp only[bn,Jj hc] at h;cases h
theorem B3{x:Jd}(hx:Stop x){c:UInt8}{u r:Jd}{v:Vl}(h:single c u=.ok v r):single c (u++x)=.ok v (r++x):=by
 unfold single at h ⊢;simp only[<-List.cons_append];split at h
 .rename_i hc;rw[Jo hc];cases hq:bn (c::u) with
  |bad k l=>rw[hq] at h;cases h
  |ok o t=>rw[hq] at h;rw[oC x hq];injection h with h1 h2;subst h1 h2;rfl
 rename_i hc;rw[Jj hc];split at h
 .rename_i hc;rw[Jo hc];cases hq:lit [110,117,108,108] (c::u) with
  |bad k l=>rw[hq] at h;cases h
  |ok o t=>rw[hq] at h;rw[vx x hq];injection h with h1 h2;subst h1 h2;rfl
 rename_i hc;rw[Jj hc];split at h
 .rename_i hc;rw[Jo hc];cases hq:lit [116,114,117,101] (c::u) with
  |bad k l=>rw[hq] at h;cases h
  |ok o t=>rw[hq] at h;rw[vx x hq];injection h with h1 h2;subst h1 h2;rfl
 rename_i hc;rw[Jj hc];split at h
 .rename_i hc;rw[Jo hc];cases hq:lit [102,97,108,115,101] (c::u) with
  |bad k l=>rw[hq] at h;cases h
  |ok o t=>rw[hq] at h;rw[vx x hq];injection h with h1 h2;subst h1 h2;rfl
 rename_i hc;rw[Jj hc];split at h
 .rename_i hc;rw[Jo hc];cases hq:number (c::u) with
  |bad k l=>rw[hq] at h;cases h
  |ok o t=>rw[hq] at h;rw[AB hx hq];injection h with h1 h2;subst h1 h2;rfl
 .cases h
theorem nD{α β:Type}{f:α->β}{r:R α}{k l:Nat}(h:r.map f=.bad k l):r=.bad k l:=by
 cases r with
 |ok v u=>cases h
 |bad c m=>injection h with h1 h2;subst h1 h2;rfl
theorem yF{c:UInt8}{u:Jd}{k l:Nat}(h:single c u=.bad k l):k≠3:=by
 unfold single at h;split at h
 .have:=lB (nD h);omega
 split at h
 .have:=jX (nD h);omega
 split at h
 .have:=jX (nD h);omega
 split at h
 .have:=jX (nD h);omega
 split at h
 .have:=rU (nD h);omega
 .injection h;omega
theorem iA(t x:Jd):skip (t++x)=if skip t=[] then skip x else skip t++x:=by
 induction t with
 |nil=>simp[skip]
 |cons c t ih=>
  rw[JS,gM,gM,ih];by_cases h:blank c=true
  .simp only[Jo h]
  .rw[Jj h,Jj h,Jj (by simp)];rfl
def Ext(x:Jd)(r r':R Vl):Prop:=(∀v u,r=.ok v u->r'=.ok v (u++x))/\(∀l,r=.bad 3 l->r'=.bad 3 (l+x.length))
def ExtV(x:Jd)(r r':R Vl):Prop:=(∀v u,r=.ok v u->r'=.ok v (if u=[] then skip x else u++x))/\(∀l,r=.bad 3 l->r'=.bad 3 (l+x.length))
theorem Ext.bad{x:Jd}{k l:Nat}{r':R Vl}(h:k≠3):Ext x (.bad k l) r':=⟨λ_ _ e=>(by cases e),λ_ e=>(by injection e with e1 e2;exact absurd e1 h)⟩
theorem Ext.bM{x:Jd}{r r':R Vl}(h:Ext x r r'):ExtV x r.bM r'.bM:=by
 constructor
 .intro v u e;cases r with
  |bad k l=>cases e
  |ok v0 u0=>
   injection e with e1 e2;subst e1 e2;rw[h.1 _ _ rfl];simp only[R.bM,iA]
 .intro l e;cases r with
  |ok v u=>cases e
  |bad k l0=>
   injection e with e1 e2;subst e1 e2;rw[h.2 _ rfl];rfl
theorem Eg(f d:Nat):value f d []=.bad 1 0:=by
 cases f<;>(unfold value;rfl)
theorem CH(f d:Nat)(acc:List Vl):elems f d [] acc=.bad 1 0:=by
 cases f with
 |zero=>unfold elems;rfl
 |succ f=>unfold elems;rw[Eg]
theorem FH(f d:Nat)(acc:List Mem):ee f d [] acc=.bad 1 0:=by
 cases f with
 |zero=>unfold ee;rfl
 |succ f=>unfold ee;rfl
theorem GP{x:Jd}(hx:Stop x)(f:Nat):(∀d t,ExtV x (value f d t) (value f d (t++x)))/\(∀d u,Ext x (arr f d u) (arr f d (u++x)))/\(∀d t acc,Ext x (elems f d t acc) (elems f d (t++x) acc))/\
  (∀d u,Ext x (obj f d u) (obj f d (u++x)))/\(∀d t acc,Ext x (ee f d t acc) (ee f d (t++x) acc)):=by
 induction f with
 |zero=>
  refine⟨λd t=>?_,λd u=>?_,λd t acc=>?_,λd u=>?_,λd t acc=>?_⟩
  .unfold value;exact(Ext.bad (by omega)).bM (r:=.bad 1 0) (r':=.bad 1 0)
  .unfold arr;exact Ext.bad (by omega)
  .unfold elems;exact Ext.bad (by omega)
  .unfold obj;exact Ext.bad (by omega)
  .unfold ee;exact Ext.bad (by omega)
 |succ f ih=>
  obtain⟨iv,ia,ie,io,im⟩:=ih;refine⟨λd t=>?_,λd u=>?_,λd t acc=>?_,λd u=>?_,λd t acc=>?_⟩
  .unfold value;apply Ext.bM;rw[iA];cases h:skip t with
   |nil=>exact Ext.bad (by omega)
   |cons c u=>
    rw[Jj (by simp),JS];simp only;by_cases h1:c=123
    .rw[Jo h1,Jo h1];exact io d u
    .rw[Jj h1,Jj h1];by_cases h2:c=91
     .rw[Jo h2,Jo h2];exact ia d u
     .rw[Jj h2,Jj h2];exact⟨λv r e=>B3 hx e,λl e=>absurd rfl (yF e)⟩
  .unfold arr;by_cases hd:d=32
   .rw[Jo hd,Jo hd];exact⟨λ_ _ e=>(by cases e),λl e=>by injection e with _ e2;subst e2;rw[Jk,Nat.add_right_comm]⟩
   .rw[Jj hd,Jj hd,iA];by_cases hn:skip u=[]
    .rw[hn,Jj (by simp),CH];exact Ext.bad (by omega)
    .rw[Jj hn];have hh:(skip u++x).head?=(skip u).head?:=by
      cases hq:skip u with
      |nil=>exact absurd hq hn
      |cons c r=>rfl
     rw[hh];by_cases h9:(skip u).head?=some 93
     .rw[Jo h9,Jo h9];refine⟨λv r e=>?_,λl e=>by cases e⟩;injection e with e1 e2;subst e1 e2;cases hq:skip u with
      |nil=>exact absurd hq hn
      |cons c r=>rfl
     .rw[Jj h9,Jj h9];exact ie _ _ _
  .unfold elems;have h1:=iv d t;cases hv:value f d t with
   |bad c l=>
    rw[hv] at h1;by_cases hc:c=3
    .subst hc;rw[h1.2 _ rfl];exact⟨λ_ _ e=>(by cases e),λl0 e=>by injection e with _ e2;subst e2;rfl⟩
    .exact Ext.bad hc
   |ok v u=>
    rw[hv] at h1;cases u with
    |nil=>exact Ext.bad (by omega)
    |cons c u=>
     rw[h1.1 _ _ rfl,Jj (by simp),JS];simp only;by_cases hc:c=44
     .rw[Jo hc,Jo hc];exact ie _ _ _
     .rw[Jj hc,Jj hc];by_cases h9:c=93
      .rw[Jo h9,Jo h9];exact⟨λv r e=>by injection e with e1 e2;subst e1 e2;rfl,λl e=>by cases e⟩
      .rw[Jj h9];exact Ext.bad (by omega)
  .unfold obj;by_cases hd:d=32
   .rw[Jo hd,Jo hd];exact⟨λ_ _ e=>(by cases e),λl e=>by injection e with _ e2;subst e2;rw[Jk,Nat.add_right_comm]⟩
   .rw[Jj hd,Jj hd,iA];by_cases hn:skip u=[]
    .rw[hn,Jj (by simp),FH];exact Ext.bad (by omega)
    .rw[Jj hn];have hh:(skip u++x).head?=(skip u).head?:=by
      cases hq:skip u with
      |nil=>exact absurd hq hn
      |cons c r=>rfl
     rw[hh];by_cases h9:(skip u).head?=some 125
     .rw[Jo h9,Jo h9];refine⟨λv r e=>?_,λl e=>by cases e⟩;injection e with e1 e2;subst e1 e2;cases hq:skip u with
      |nil=>exact absurd hq hn
      |cons c r=>rfl
     .rw[Jj h9,Jj h9];exact im _ _ _
  .unfold ee;rw[iA];by_cases hn:skip t=[]
   .rw[hn];exact Ext.bad (by omega)
   .rw[Jj hn];cases hq:bn (skip t) with
    |bad c l=>exact Ext.bad (by have:=(lB hq).1;omega)
    |ok key t2=>
     rw[oC x hq];simp only;by_cases hf:(find acc key).isSome=true
     .rw[Jo hf];exact Ext.bad (by omega)
     .rw[Jj hf,Jj hf,iA];cases h3:skip t2 with
      |nil=>exact Ext.bad (by omega)
      |cons c t4=>
       rw[Jj (by simp),JS];simp only;by_cases hc:c=58
       .rw[Jo hc,Jo hc];have h1:=iv d t4;cases hv:value f d t4 with
        |bad c l=>
         rw[hv] at h1;by_cases hc:c=3
         .subst hc;rw[h1.2 _ rfl];exact⟨λ_ _ e=>(by cases e),λl0 e=>by injection e with _ e2;subst e2;rfl⟩
         .exact Ext.bad hc
        |ok v u=>
         rw[hv] at h1;cases u with
         |nil=>exact Ext.bad (by omega)
         |cons c u=>
          rw[h1.1 _ _ rfl,Jj (by simp),JS];simp only;by_cases hc:c=44
          .rw[Jo hc,Jo hc];exact im _ _ _
          .rw[Jj hc,Jj hc];by_cases h9:c=125
           .rw[Jo h9,Jo h9];exact⟨λv r e=>by injection e with e1 e2;subst e1 e2;rfl,λl e=>by cases e⟩
           .rw[Jj h9];exact Ext.bad (by omega)
       .rw[Jj hc];exact Ext.bad (by omega)
def Dp(r r':R Vl):Prop:=r'=r\/∃l,r'=.bad 3 l
theorem Dp.refl(r:R Vl):Dp r r:=.inl rfl
theorem Dp.bM{r r':R Vl}(h:Dp r r'):Dp r.bM r'.bM:=by
 rcases h with rfl|⟨l,rfl⟩
 .exact .refl _
 .exact .inr ⟨l,rfl⟩
theorem ET(f:Nat):(∀d t,d<32->Dp (value f d t) (value f (d+1) t))/\(∀d u,d<32->Dp (arr f d u) (arr f (d+1) u))/\(∀d t acc,d<32->Dp (elems f d t acc) (elems f (d+1) t acc))/\
  (∀d u,d<32->Dp (obj f d u) (obj f (d+1) u))/\(∀d t acc,d<32->Dp (ee f d t acc) (ee f (d+1) t acc)):=by
 induction f with
 |zero=>exact⟨λ_ _ _=>.inl (by unfold value;rfl),λ_ _ _=>.inl (by unfold arr;rfl),λ_ _ _ _=>.inl (by unfold elems;rfl),λ_ _ _=>.inl (by unfold obj;rfl),λ_ _ _ _=>.inl (by unfold ee;rfl)⟩
 |succ f ih=>
  obtain⟨iv,ia,ie,io,im⟩:=ih;refine⟨λd t hd=>?_,λd u hd=>?_,λd t acc hd=>?_,λd u hd=>?_,λd t acc hd=>?_⟩
  .unfold value;apply Dp.bM;cases skip t with
   |nil=>exact .refl _
   |cons c u=>
    simp only;by_cases h1:c=123
    .rw[Jo h1,Jo h1];exact io d u hd
    .rw[Jj h1,Jj h1];by_cases h2:c=91
     .rw[Jo h2,Jo h2];exact ia d u hd
     .rw[Jj h2,Jj h2];exact .refl _
  .unfold arr;rw[Jj (show¬d=32 by omega)];by_cases h:d+1=32
   .rw[Jo h];exact .inr ⟨_,rfl⟩
   .rw[Jj h];split
    .exact .refl _
    .exact ie _ _ _ (by omega)
  .unfold elems;rcases iv d t hd with h|⟨l,h⟩
   .rw[h];cases value f d t with
    |bad c l=>exact .refl _
    |ok v u=>
     cases u with
     |nil=>exact .refl _
     |cons c u=>
      simp only;by_cases hc:c=44
      .rw[Jo hc,Jo hc];exact ie _ _ _ hd
      .rw[Jj hc,Jj hc];exact .refl _
   .rw[h];exact .inr ⟨l,rfl⟩
  .unfold obj;rw[Jj (show¬d=32 by omega)];by_cases h:d+1=32
   .rw[Jo h];exact .inr ⟨_,rfl⟩
   .rw[Jj h];split
    .exact .refl _
    .exact im _ _ _ (by omega)
  .unfold ee;cases bn (skip t) with
   |bad c l=>exact .refl _
   |ok key t2=>
    simp only;split
    .exact .refl _
    cases skip t2 with
    |nil=>exact .refl _
    |cons c t4=>
     simp only;by_cases hc:c=58
     .rw[Jo hc,Jo hc];rcases iv d t4 hd with h|⟨l,h⟩
      .rw[h];cases value f d t4 with
       |bad c l=>exact .refl _
       |ok v u=>
        cases u with
        |nil=>exact .refl _
        |cons c u=>
         simp only;by_cases hc:c=44
         .rw[Jo hc,Jo hc];exact im _ _ _ hd
         .rw[Jj hc,Jj hc];exact .refl _
      .rw[h];exact .inr ⟨l,rfl⟩
     .rw[Jj hc,Jj hc];exact .refl _
theorem Fj(f:Nat):(∀f' d t,d<=32->3*t.length+1<=f->3*t.length+1<=f'->value f d t=value f' d t)/\(∀f' d u,d<=32->3*u.length+3<=f->3*u.length+3<=f'->arr f d u=arr f' d u)/\
  (∀f' d t acc,d<=32->3*t.length+2<=f->3*t.length+2<=f'->elems f d t acc=elems f' d t acc)/\(∀f' d u,d<=32->3*u.length+3<=f->3*u.length+3<=f'->obj f d u=obj f' d u)/\
  (∀f' d t acc,d<=32->3*t.length+2<=f->3*t.length+2<=f'->ee f d t acc=ee f' d t acc):=by
 induction f with
 |zero=>exact⟨λ_ _ _ _ h=>by omega,λ_ _ _ _ h=>by omega,λ_ _ _ _ _ h=>by omega,λ_ _ _ _ h=>by omega,λ_ _ _ _ _ h=>by omega⟩
 |succ f ih=>
  obtain⟨iv,ia,ie,io,im⟩:=ih;refine⟨λf' d t hd h1 h2=>?_,λf' d u hd h1 h2=>?_,λf' d t acc hd h1 h2=>?_,λf' d u hd h1 h2=>?_,λf' d t acc hd h1 h2=>?_⟩
  .obtain⟨f',rfl⟩:∃g,f'=g+1:=⟨f'-1,by omega⟩;unfold value
   congr 1
   have hs:=aC t;cases h:skip t with
   |nil=>rfl
   |cons c u=>
    rw[h] at hs;simp only[Jl] at hs;simp only;rw[io f' d u hd (by omega) (by omega),ia f' d u hd (by omega) (by omega)]
  .obtain⟨f',rfl⟩:∃g,f'=g+1:=⟨f'-1,by omega⟩;unfold arr;have hs:=aC u;by_cases h:d=32
   .rw[Jo h,Jo h]
   .rw[Jj h,Jj h,ie f' (d+1) (skip u) [] (by omega) (by omega) (by omega)]
  .obtain⟨f',rfl⟩:∃g,f'=g+1:=⟨f'-1,by omega⟩;unfold elems;rw[<-iv f' d t hd (by omega) (by omega)];have hT:=(told f).1 d t hd;cases h:value f d t with
   |bad c l=>rfl
   |ok v u=>
    rw[h] at hT;have hl:=hT.2;cases u with
    |nil=>rfl
    |cons c u=>
     simp only[Jl] at hl;simp only;rw[ie f' d u _ hd (by omega) (by omega)]
  .obtain⟨f',rfl⟩:∃g,f'=g+1:=⟨f'-1,by omega⟩;unfold obj;have hs:=aC u;by_cases h:d=32
   .rw[Jo h,Jo h]
   .rw[Jj h,Jj h,im f' (d+1) (skip u) [] (by omega) (by omega) (by omega)]
  .obtain⟨f',rfl⟩:∃g,f'=g+1:=⟨f'-1,by omega⟩;unfold ee;have hs:=aC t;cases hq:bn (skip t) with
   |bad c l=>rfl
   |ok key t2=>
    have hq2:=(fR hq).1;have hs2:=aC t2;simp only;split
    .rfl
    cases h3:skip t2 with
    |nil=>rfl
    |cons c t4=>
     rw[h3] at hs2;simp only[Jl] at hs2;simp only;rw[<-iv f' d t4 hd (by omega) (by omega)];have hT:=(told f).1 d t4 hd;cases h:value f d t4 with
     |bad c l=>rfl
     |ok v u=>
      rw[h] at hT;have hl:=hT.2;cases u with
      |nil=>rfl
      |cons c u=>
       simp only[Jl] at hl;simp only;rw[im f' d u _ hd (by omega) (by omega)]
def fin:R Vl->R Vl
 |.bad c l=>.bad c l
 |.ok v []=>.ok v []
 |.ok _ (c::u)=>.bad 1 (c::u).length
theorem AK{s:Jd}(hs:s.length<=20000)(f:Nat)(hf:3*s.length+1<=f):parse s=fin (value f 0 s):=by
 unfold parse;rw[Jj (by omega),(Fj (3*s.length+1)).1 f 0 s (by omega) (Jh _) hf];cases value f 0 s with
 |bad c l=>rfl
 |ok v u=>cases u<;>rfl
theorem Io{r:R Vl}{v:Vl}{u:Jd}(h:fin r=.ok v u):r=.ok v []/\u=[]:=by
 cases r with
 |bad c l=>cases h
 |ok v' u'=>
  cases u' with
  |nil=>injection h with h1 h2;subst h1 h2;exact⟨rfl,rfl⟩
  |cons c u=>cases h
theorem l6{s:Jd}{v:Vl}{u:Jd}(h:parse s=.ok v u)(f:Nat)(hf:3*s.length+1<=f):value f 0 s=.ok v []/\u=[]/\s.length<=20000:=by
 have hs:s.length<=20000:=by
  rcases KW 20000 s.length with h1|h1
  .unfold parse at h;rw[Jo h1] at h;cases h
  .exact h1
 rw[AK hs f hf] at h;obtain⟨h1,h2⟩:=Io h;exact⟨h1,h2,hs⟩
theorem zg{f d:Nat}{s:Jd}{v:Vl}{u:Jd}(h:value f d s=.ok v u):skip s≠[]/\(skip s).head?≠some 93/\(skip s).head?≠some 125:=by
 cases f with
 |zero=>unfold value at h;cases h
 |succ f=>
  unfold value at h;cases hq:skip s with
  |nil=>rw[hq] at h;cases h
  |cons c t=>
   rw[hq] at h;refine⟨by simp,?_,?_⟩
   .intro e;cases e;simp[single,R.bM,Nm.dig] at h
   .intro e;cases e;simp[single,R.bM,Nm.dig] at h
theorem Bp(f d:Nat)(s:Jd):value f d (skip s)=value f d s:=by
 cases f with
 |zero=>unfold value;rfl
 |succ f=>unfold value;rw[DW]
def core(f d:Nat)(t:Jd):R Vl:=
 match skip t with
 |[]=>.bad 1 0
 |c::u=>if c=123 then obj f d u else if c=91 then arr f d u else single c u
def J6(f d:Nat)(t:Jd):R Vl:=
 match f with
 |0=>.bad 1 0
 |f+1=>core f d t
def FW(f d:Nat)(t:Jd)(_:List Vl):R Vl:=J6 f d t
def sF(acc:List Mem):List Mem:=acc.foldl (λm p=>ins m p.1 p.2) []
theorem sG(acc:List Mem)(k:Jd)(v:Vl):sF (acc++[(k,v)])=ins (sF acc) k v:=by
 unfold sF;rw[Lg];rfl
theorem Fu(m:List Mem)(k:Jd)(v:Vl):(ins m k v).Perm ((k,v)::m):=by
 have hm:m.takeWhile (less k)++m.dropWhile (less k)=m:=Kc;unfold ins;refine List.perm_middle.trans ?_;rw[hm]
theorem yI{α:Type}{P:List α->Prop}(h0:P [])(h1:∀l a,P l->P (l++[a]))(l:List α):P l:=by
 have h:∀r:List α,P r.reverse:=by
  intro r
  induction r with
  |nil=>exact h0
  |cons a r ih=>rw[List.reverse_cons];exact h1 _ _ ih
 have:=h l.reverse;rwa[MB] at this
theorem Bb(acc:List Mem):(sF acc).Perm acc:=by
 refine yI (P:=λacc=>(sF acc).Perm acc) ?_ ?_ acc
 .exact .refl _
 .rintro acc ⟨k,v⟩ ih;rw[sG];exact(Fu _ k v).trans ((List.Perm.cons _ ih).trans (List.perm_append_comm (l₁:=[(k,v)]) (l₂:=acc)))
def Em(acc:List Mem):Prop:=acc.Pairwise λp q=>p.1≠q.1
theorem mI{acc:List Mem}(h:Em acc):bO ((sF acc).map (·.1))=true:=by
 revert h
 refine yI (P:=λacc=>Em acc->bO ((sF acc).map (·.1))=true) ?_ ?_ acc
 .intro _;rfl
 .rintro acc ⟨k,v⟩ ih h;unfold Em at h;rw[Lx] at h;rw[sG];refine gJ v (ih h.1) λq hq=>?_;exact h.2.2 q ((Bb acc).mem_iff.1 hq) (k,v) (by simp)
end Ps
section
open Go.RowKit Js
open Go.Maps (Keyed)
section
variable {P:Program} {K E T:TypeId} {w w':World} {b n:Nat} {S:Jd->Bool}
end
structure cz (rb mb:Nat) (w w':World):Prop where
 os:w'.os=w.os
 tape:w'.tape=w.tape
 output:w'.output=w.output
 size:w.heap.size<=w'.heap.size
 block:∀k,k<w.heap.size->k≠rb->k≠mb->w'.heap[k]? =w.heap[k]?
section
variable {rb mb:Nat} {w w' w'':World}
theorem ak.two(h:ak rb w w'):cz rb mb w w':=⟨h.os,h.tape,h.output,h.size,λk hk hr _=>h.block k hk hr⟩
theorem cz.refl(rb mb:Nat)(w:World):cz rb mb w w:=⟨rfl,rfl,rfl,Jh _,λ_ _ _ _=>rfl⟩
theorem cz.trans(h:cz rb mb w w')(k:cz rb mb w' w''):cz rb mb w w'':=
 ⟨k.os.trans h.os,k.tape.trans h.tape,k.output.trans h.output,JA h.size k.size,λj hj hr hm=>(k.block j (JN hj h.size) hr hm).trans (h.block j hj hr hm)⟩
theorem cz.drewN(h:cz rb mb w w')(n:Nat):cz rb mb w (w'.drewN n):=⟨h.os,h.tape,h.output,h.size,h.block⟩
theorem cz.drew(h:cz rb mb w w'):cz rb mb w w'.drew:=⟨h.os,h.tape,h.output,h.size,h.block⟩
theorem cz.aJ(h:Below w.heap.size w w'):cz rb mb w w':=(ak.aJ h).two
theorem cz.alloc(h:cz rb mb w w')(o:Obj):cz rb mb w (w'.alloc o):=h.trans (ak.alloc (.refl _ _) o).two
theorem cz.set(h:cz rb mb w w')(i:Nat)(u:Value):cz rb mb w (w'.setCell ⟨rb,i,none⟩ u):=h.trans (ak.set (.refl _ _) i u).two
theorem cz.kt(h:cz rb mb w w'){g:Nat}(hg:w.heap.size<=g)(i:Nat)(u:Value):cz rb mb w (w'.setCell ⟨g,i,none⟩ u):=
 ⟨h.os,h.tape,h.output,by simpa[World.setCell] using h.size,λk hk hr hm=>(JG _ _ _ _ (by show k≠g;omega)).trans (h.block k hk hr hm)⟩
theorem cz.grow(h:w.grownBy w' (some mb)):cz rb mb w w':=⟨h.os,h.tape,h.output,h.size,λk hk _ hm=>h.block k hk (by simpa using hm)⟩
theorem cz.blk{g:Nat}{t:TypeId}{cs:Array Value}(h:cz rb mb w w')(hb:Blk w g t cs)(hr:g≠rb)(hm:g≠mb):Blk w' g t cs:=(h.block g hb.lt hr hm).trans hb
theorem cz.one(h:cz rb mb w w')(hm:w.heap.size<=mb):ak rb w w':=⟨h.os,h.tape,h.output,h.size,λk hk hr=>h.block k hk hr (by omega)⟩
end
theorem iG.more{w w1 w3:World}{rb mb B:Nat}{A:Option Addr}{cp:Nat}{acc:List Js.Mem}(hB:B<=w.heap.size)(hr:rb<B)(hmb:mb<B)(hS:cz rb mb w w1){key:Jd}{v:Vl}{cs:Array Value}(hv:v.In (w1.on (w.heap.size<=·)) (.agg cs))(hc1:∀u∈cs.toList,u.oneCell'=true)
  {flat:List Value} (hown:w.ownsRow B 95 9 (.slice A acc.length cp) acc.length flat) (hone:∀u∈flat,u.oneCell'=true) (hel:∀i p,acc[i]? =some p->flat[i*9]? =some (.string ⟨p.1.toArray⟩)/\∃x,p.2.In (w.on (Off B A)) x/\∀(j:Nat) u,x.cells[j]? =some u->flat[i*9+1+j]? =some u)
  {T:TypeId} {os:Array Value} {g cap:Nat} (h3:w3.ownsRow B 95 9 (.slice (some ⟨g,0,none⟩) (acc.length+1) cap) (acc.length+1) (flat++(.string ⟨key.toArray⟩::cs.toList))) (hg:(w1.alloc (.cells os T)).grownBy w3 (Value.slice A acc.length cp).ownBlock)
  (hat:(Value.slice A acc.length cp).ownBlock=some g\/g=(w1.alloc (.cells os T)).heap.size):iG w3 B (some ⟨g,0,none⟩) cap (acc++[(key,v)]):=by
 have hl:=ai hown;have hA:∀k,(∀ad,A=some ad->k≠ad.block)↔some k≠(Value.slice A acc.length cp).ownBlock:=by
  intro k;cases A with
  |none=>simp[Value.ownBlock]
  |some ad=>simp[Value.ownBlock]
 have hsz:(w1.alloc (.cells os T)).heap.size=w1.heap.size+1:=by simp
 have hcell:∀p u,B<=p.block->(∀ad,A=some ad->p.block≠ad.block)->w1.cell? p=some u->w3.cell? p=some u/\p.block≠g:=by
  intro p u hp hpa hc;have hlt:=Jn w1 _ hc;refine⟨?_,?_⟩
  .rw[hg.cell_far p (by rw[hsz];omega) ((hA _).1 hpa),ME _ _ _ hlt];exact hc
  .rcases hat with h|h
   .intro e;exact(hA _).1 hpa (by rw[h,e])
   .omega
 have hfl:flat.length=acc.length*9:=hown.1;refine⟨flat++(.string ⟨key.toArray⟩::cs.toList),?_,?_,λi u hi=>?_⟩
 .rw[Jk,Jy];exact h3
 .intro u hu;rcases Jq.1 hu with hu|hu
  .exact hone u hu
  .rcases JB.1 hu with rfl|hu
   .rfl
   .exact hc1 u hu
 .by_cases hlt:i<acc.length
  .rw[JD hlt] at hi;obtain⟨hk,x,hx,hc⟩:=hel i u hi;refine⟨?_,x,In.keep (λp y hp=>?_) _ _ hx,λj y hy=>?_⟩
   .rw[JD (Jm.1 hk).1];exact hk
   .obtain⟨⟨hs1,hs2⟩,hpc⟩:=ah.1 hp;have hlt':=Jn w _ hpc;have hpc1:w1.cell? p=some y:=by rw[Ka (w:=w) (hS.block _ hlt' (by omega) (by omega))];exact hpc
    obtain⟨k1,k2⟩:=hcell p y hs1 hs2 hpc1;exact ah.2 ⟨⟨hs1,λad e=>by cases e;exact k2⟩,k1⟩
   .have:=hc j y hy;rw[JD (Jm.1 this).1];exact this
  .obtain rfl:i=acc.length:=by
    have:=(Jm.1 hi).1;rw[Jk,Jy] at this;omega
   rw[Jx (Jh _)] at hi;simp at hi;subst hi;refine⟨?_,.agg cs,In.keep (λp y hp=>?_) _ _ hv,λj y hy=>?_⟩
   .rw[Jx (by omega),hfl,O8];rfl
   .obtain⟨hs1,hpc⟩:=ah.1 hp;have hAl:∀ad,A=some ad->ad.block<w.heap.size:=λad e=>by
     obtain⟨g',rfl,_,h⟩:=hl.2.2.2 ad e;exact h
    obtain⟨k1,k2⟩:=hcell p y (by omega) (λad e=>by have:=hAl ad e;omega) hpc;exact ah.2 ⟨⟨by omega,λad e=>by cases e;exact k2⟩,k1⟩
   .rw[Jx (by omega),hfl,show acc.length*9+1+j-acc.length*9=j+1 by omega,Kr];simpa[Value.cells] using hy
theorem zX(j:Nat)(w:World)(hT:Tab w)(h:j<=1000000):Calls Tryz.prog 77 #[.int .i64 j] w λe w'=>e=.returned (.string ⟨(Lib.decDigits j).toArray⟩)/\Below w.heap.size w w':=by
 refine(Tryz.strconv_Itoa (j:Int) (by omega) (by omega) w hT).mono ?_;rintro e w1 ⟨rfl,k4,os4,rfl⟩;exact⟨by rw[Lib.itoa_nonneg],below_grow w k4 os4⟩
section
variable {S:Nat->Prop} {w:World} {l:List Vl} {g j:Nat} {cs:List Value} {wr w':World}
end
end
