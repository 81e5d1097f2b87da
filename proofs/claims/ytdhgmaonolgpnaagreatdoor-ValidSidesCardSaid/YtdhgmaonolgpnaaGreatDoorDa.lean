import Derived.Test.YtdhgmaonolgpnaaGreatDoorPp
set_option linter.unusedSimpArgs false
namespace Go.Proofs.YtdhgmaonolgpnaaGreatDoor
namespace Cm
open Js Pt
abbrev Names:=List Jd
structure Key where
 name:Jd
 v:Vl
 kids:List (Jd×Nat)
structure Node where
 at_:Names
 all:Bool
 pass:Bool
 keys:List Key
inductive Res (α:Type) where
 |ok (a:α)
 |bad (c:Nat) (p:Names)
def ar(nd:Nat->Names->Vl->Res (List Node))(single:Bool)(under:Names):Nat->List Mem->Res (List (Jd×Nat)×List Node)
 |_,[]=>.ok ([],[])
 |off,(key,u)::r=>match nd off (if single=true then under else under++[key]) u with
  |.bad c p=>.bad c p
  |.ok a=>match ar nd single under (off+a.length) r with
   |.bad c p=>.bad c p
   |.ok (ks,b)=>.ok ((key,off)::ks,a++b)
def av(nd:Nat->Names->Vl->Res (List Node))(P:Names):Nat->List Mem->Res (List Key×List Node)
 |_,[]=>.ok ([],[])
 |off,(nm,w)::r=>if Sh.shape nm w=0 then match ar nd (Sh.single nm) (P++[nm]) off (Sh.kids nm w) with
  |.bad c p=>.bad c p
  |.ok (ks,a)=>match av nd P (off+a.length) r with
   |.bad c p=>.bad c p
   |.ok (keys,b)=>.ok (⟨nm,w,ks⟩::keys,a++b)
  else .bad (Sh.shape nm w) (P++[nm])
def node:Nat->Nat->Names->Vl->Res (List Node)
 |0,_,P,_=>.bad 5 P
 |f+1,off,P,.mk k b _ _ _ m=>if off=200 then .bad 5 P else match av (node f) P (off+1) m with
  |.bad c p=>.bad c p
  |.ok (keys,a)=>.ok (⟨P,decide (k=1),b,keys⟩::a)
def compile(v:Vl):Res (List Node):=if Sh.jD v=true then node v.size 0 [] v else .bad 14 []
theorem jE{nm:Jd}{w:Vl}{p:Mem}(h:p∈Sh.kids nm w):p.2.size<=w.size:=by
 obtain⟨k,b,n,s,l,m⟩:=w;rw[Sh.cI] at h;split at h
 .obtain rfl:=Jt.1 h;exact Jh _
 .split at h
  .have:=er h;simp only[Vl.size];omega
  .split at h
   .obtain⟨i,hi⟩:=JP h;obtain⟨v,hv,rfl⟩:=Sh.ef hi;have:=lE (Jz hv);simp only[Vl.size];omega
   .cases h
theorem oY{nd nd':Nat->Names->Vl->Res (List Node)}{single:Bool}{under:Names}:∀{l:List Mem} {off:Nat},(∀p∈l,∀o P,nd o P p.2=nd' o P p.2)->ar nd single under off l=ar nd' single under off l
 |[],_,_=>rfl
 |(key,u)::r,off,h=>by
  rw[ar,ar,h (key,u) (by simp) off];cases nd' off (if single=true then under else under++[key]) u with
  |bad c p=>rfl
  |ok a=>simp only;rw[oY (λp hp=>h p (by simp[hp]))]
theorem ph{nd nd':Nat->Names->Vl->Res (List Node)}{P:Names}:∀{m:List Mem} {off:Nat},(∀q∈m,∀p∈Sh.kids q.1 q.2,∀o P,nd o P p.2=nd' o P p.2)->av nd P off m=av nd' P off m
 |[],_,_=>rfl
 |(nm,w)::r,off,h=>by
  rw[av,av,oY (λp hp=>h (nm,w) (by simp) p hp)];split
  .cases ar nd' (Sh.single nm) (P++[nm]) off (Sh.kids nm w) with
   |bad c p=>rfl
   |ok a=>obtain⟨ks,a⟩:=a;simp only;rw[ph (λq hq=>h q (by simp[hq]))]
  .rfl
theorem Dj:∀(f f':Nat) (v:Vl) (off:Nat) (P:Names),v.size<=f->v.size<=f'->node f off P v=node f' off P v:=by
 intro f
 induction f with
 |zero=>intro f' v off P h;obtain⟨k,b,n,s,l,m⟩:=v;simp only[Vl.size] at h;omega
 |succ f ih=>
  intro f' v off P h h';obtain⟨k,b,n,s,l,m⟩:=v;cases f' with
  |zero=>simp only[Vl.size] at h';omega
  |succ f'=>
   rw[node,node,ph (nd':=node f') (λq hq p hp o P'=>?_)];have h1:=jE hp;have h2:=er hq;simp only[Vl.size] at h h';exact ih f' p.2 o P' (by omega) (by omega)
theorem aN{nd:Nat->Names->Vl->Res (List Node)}{single:Bool}{under:Names}{off:Nat}{key:Jd}{u:Vl}{r:List Mem}{ks:List (Jd×Nat)}{a:List Node}(h:ar nd single under off ((key,u)::r)=.ok (ks,a)):
  ∃a1 ks2 a2,nd off (if single=true then under else under++[key]) u=.ok a1/\ar nd single under (off+a1.length) r=.ok (ks2,a2)/\ks=(key,off)::ks2/\a=a1++a2:=by
 rw[ar] at h;cases h1:nd off (if single=true then under else under++[key]) u with
 |bad c p=>rw[h1] at h;cases h
 |ok a1=>
  rw[h1] at h;simp only at h;cases h2:ar nd single under (off+a1.length) r with
  |bad c p=>rw[h2] at h;cases h
  |ok x=>
   obtain⟨ks2,a2⟩:=x;rw[h2] at h;simp only[Res.ok.injEq,Kl] at h;exact⟨a1,ks2,a2,rfl,h2,h.1.symm,h.2.symm⟩
theorem bG{nd:Nat->Names->Vl->Res (List Node)}{P:Names}{off:Nat}{nm:Jd}{w:Vl}{r:List Mem}{keys:List Key}{a:List Node}(h:av nd P off ((nm,w)::r)=.ok (keys,a)):
  Sh.shape nm w=0/\∃ks a1 keys2 a2,ar nd (Sh.single nm) (P++[nm]) off (Sh.kids nm w)=.ok (ks,a1)/\av nd P (off+a1.length) r=.ok (keys2,a2)/\keys=⟨nm,w,ks⟩::keys2/\a=a1++a2:=by
 rw[av] at h;split at h
 .rename_i h0;refine⟨h0,?_⟩;cases h1:ar nd (Sh.single nm) (P++[nm]) off (Sh.kids nm w) with
  |bad c p=>rw[h1] at h;cases h
  |ok x=>
   obtain⟨ks,a1⟩:=x;rw[h1] at h;simp only at h;cases h2:av nd P (off+a1.length) r with
   |bad c p=>rw[h2] at h;cases h
   |ok x=>
    obtain⟨keys2,a2⟩:=x;rw[h2] at h;simp only[Res.ok.injEq,Kl] at h;exact⟨ks,a1,keys2,a2,rfl,h2,h.1.symm,h.2.symm⟩
 .cases h
theorem dd{f off:Nat}{P:Names}{k:Int}{b:Bool}{n:Nm.Num}{s:Jd}{l:List Vl}{m:List Mem}{a:List Node}(h:node (f+1) off P (.mk k b n s l m)=.ok a):
  ¬off=200/\∃keys r,av (node f) P (off+1) m=.ok (keys,r)/\a=⟨P,decide (k=1),b,keys⟩::r:=by
 rw[node] at h;split at h
 .cases h
 .rename_i h0;refine⟨h0,?_⟩;cases h1:av (node f) P (off+1) m with
  |bad c p=>rw[h1] at h;cases h
  |ok x=>
   obtain⟨keys,r⟩:=x;rw[h1] at h;simp only[Res.ok.injEq] at h;exact⟨keys,r,rfl,h.symm⟩
theorem u5{nd:Nat->Names->Vl->Res (List Node)}{P:Names}:∀{m:List Mem} {off:Nat} {keys:List Key} {a:List Node},av nd P off m=.ok (keys,a)->keys.length=m.length
 |[],_,_,_,h=>by rw[av] at h;injection h with h;injection h with h1 h2;subst h1;rfl
 |(nm,w)::r,off,keys,a,h=>by
  obtain⟨_,ks,a1,keys2,a2,_,h2,rfl,_⟩:=bG h;rw[Jl,Jl,u5 h2]
theorem rj{nd:Nat->Names->Vl->Res (List Node)}(hnd:∀off P u a,off<=200->nd off P u=.ok a->off+a.length<=200){single:Bool}{under:Names}:∀{l:List Mem} {off:Nat} {ks:List (Jd×Nat)} {a:List Node},off<=200->ar nd single under off l=.ok (ks,a)->off+a.length<=200
 |[],off,ks,a,h,e=>by rw[ar] at e;injection e with e;injection e with e1 e2;subst e2;exact h
 |(key,u)::r,off,ks,a,h,e=>by
  obtain⟨a1,ks2,a2,h1,h2,_,rfl⟩:=aN e;have:=hnd _ _ _ _ h h1;have:=rj hnd this h2;rw[Jk];omega
theorem rP{nd:Nat->Names->Vl->Res (List Node)}(hnd:∀off P u a,off<=200->nd off P u=.ok a->off+a.length<=200){P:Names}:∀{m:List Mem} {off:Nat} {keys:List Key} {a:List Node},off<=200->av nd P off m=.ok (keys,a)->off+a.length<=200
 |[],off,keys,a,h,e=>by rw[av] at e;injection e with e;injection e with e1 e2;subst e2;exact h
 |(nm,w)::r,off,keys,a,h,e=>by
  obtain⟨_,ks,a1,keys2,a2,h1,h2,_,rfl⟩:=bG e;have:=rj hnd h h1;have:=rP hnd this h2;rw[Jk];omega
theorem u6(f:Nat):∀off P u a,off<=200->node f off P u=.ok a->off+a.length<=200:=by
 induction f with
 |zero=>intro off P u a _ h;cases h
 |succ f ih=>
  intro off P u a ho h;obtain⟨k,b,n,s,l,m⟩:=u;obtain⟨h0,keys,r,h1,rfl⟩:=dd h;have:=rP ih (by omega) h1;rw[Jl];omega
def jg(a:List Node):List Nat:=a.flatMap λN=>N.keys.flatMap λk=>k.kids.map (·.2)
def fA(keys:List Key):List Nat:=keys.flatMap λk=>k.kids.map (·.2)
theorem jh(a b:List Node):jg (a++b)=jg a++jg b:=by simp[jg]
theorem oW(P:Names)(x y:Bool)(keys:List Key)(a:List Node):jg (⟨P,x,y,keys⟩::a)=fA keys++jg a:=by simp[jg,fA]
def one(lo hi n:Nat):Nat:=if lo<=n/\n<hi then 1 else 0
theorem oz{lo mid hi n:Nat}(h1:lo<=mid)(h2:mid<=hi):one lo hi n=one lo mid n+one mid hi n:=by
 unfold one;split<;>split<;>split<;>omega
def Ez(off:Nat)(a:List Node):Prop:=∀n,(jg a).count n=one (off+1) (off+a.length) n
theorem ri{nd:Nat->Names->Vl->Res (List Node)}(hnd:∀off P u a,nd off P u=.ok a->0<a.length/\Ez off a){single:Bool}{under:Names}:∀{l:List Mem} {off:Nat} {ks:List (Jd×Nat)} {a:List Node},ar nd single under off l=.ok (ks,a)->∀n,(ks.map (·.2)).count n+(jg a).count n=one off (off+a.length) n
 |[],off,ks,a,e,n=>by
  rw[ar] at e;injection e with e;injection e with e1 e2;subst e1 e2
  unfold one;rw[Jj (by simp)];rfl
 |(key,u)::r,off,ks,a,e,n=>by
  obtain⟨a1,ks2,a2,h1,h2,rfl,rfl⟩:=aN e;obtain⟨hp,ho⟩:=hnd _ _ _ _ h1;have h3:=ri hnd h2 n;have h4:=ho n;rw[jh,KY,Jk,Kh,List.count_cons];rw[oz (mid:=off+a1.length) (by omega) (by omega),oz (lo:=off) (mid:=off+1) (hi:=off+a1.length) (by omega) (by omega)];have h5:one off (off+1) n=if((key,off):Jd×Nat).2==n then 1 else 0:=by
   unfold one;by_cases e:off=n
   .subst e;simp
   .rw[Jj (by omega),Jj (by simpa using e)]
  rw[show off+(a1.length+a2.length)=off+a1.length+a2.length by omega];omega
theorem rM{nd:Nat->Names->Vl->Res (List Node)}(hnd:∀off P u a,nd off P u=.ok a->0<a.length/\Ez off a){P:Names}:∀{m:List Mem} {off:Nat} {keys:List Key} {a:List Node},av nd P off m=.ok (keys,a)->∀n,(fA keys).count n+(jg a).count n=one off (off+a.length) n
 |[],off,keys,a,e,n=>by
  rw[av] at e;injection e with e;injection e with e1 e2;subst e1 e2
  unfold one;rw[Jj (by simp)];rfl
 |(nm,w)::r,off,keys,a,e,n=>by
  obtain⟨_,ks,a1,keys2,a2,h1,h2,rfl,rfl⟩:=bG e;have h3:=ri hnd h1 n;have h4:=rM hnd h2 n;rw[jh,KY,Jk,show fA (⟨nm,w,ks⟩::keys2)=ks.map (·.2)++fA keys2 by simp[fA],KY];rw[oz (mid:=off+a1.length) (by omega) (by omega),show off+(a1.length+a2.length)=off+a1.length+a2.length by omega];omega
theorem Dm(f:Nat):∀off P u a,node f off P u=.ok a->0<a.length/\Ez off a:=by
 induction f with
 |zero=>intro off P u a h;cases h
 |succ f ih=>
  intro off P u a h;obtain⟨k,b,n,s,l,m⟩:=u;obtain⟨_,keys,r,h1,rfl⟩:=dd h;refine⟨by simp,λn=>?_⟩;rw[oW,KY,rM ih h1 n,Jl,show off+(r.length+1)=off+1+r.length by omega]
def tB(off:Nat)(a:List Node):Prop:=∀i N,a[i]? =some N->∀k∈N.keys,∀p∈k.kids,off+i<p.2/\p.2<off+a.length
theorem oX{nd:Nat->Names->Vl->Res (List Node)}(hnd:∀off P u a,nd off P u=.ok a->0<a.length/\tB off a){single:Bool}{under:Names}:∀{l:List Mem} {off:Nat} {ks:List (Jd×Nat)} {a:List Node},ar nd single under off l=.ok (ks,a)->(∀p∈ks,off<=p.2/\p.2<off+a.length)/\tB off a
 |[],off,ks,a,e=>by
  rw[ar] at e;injection e with e;injection e with e1 e2;subst e1 e2
  exact⟨(λp h=>by cases h),λi N h=>by simp at h⟩
 |(key,u)::r,off,ks,a,e=>by
  obtain⟨a1,ks2,a2,h1,h2,rfl,rfl⟩:=aN e;obtain⟨hp,ho⟩:=hnd _ _ _ _ h1;obtain⟨h3,h4⟩:=oX hnd h2;rw[Jk];refine⟨λp hm=>?_,?_⟩
  .rcases JB.1 hm with rfl|hm
   .simp only;omega
   .have:=h3 p hm;omega
  .intro i N hi k hk p hpk;rw[Jk];by_cases hlt:i<a1.length
   .rw[JD hlt] at hi;have:=ho i N hi k hk p hpk;omega
   .rw[Jx (by omega)] at hi;have:=h4 _ N hi k hk p hpk;omega
theorem pg{nd:Nat->Names->Vl->Res (List Node)}(hnd:∀off P u a,nd off P u=.ok a->0<a.length/\tB off a){P:Names}:∀{m:List Mem} {off:Nat} {keys:List Key} {a:List Node},av nd P off m=.ok (keys,a)->(∀k∈keys,∀p∈k.kids,off<=p.2/\p.2<off+a.length)/\tB off a
 |[],off,keys,a,e=>by
  rw[av] at e;injection e with e;injection e with e1 e2;subst e1 e2
  exact⟨(λp h=>by cases h),λi N h=>by simp at h⟩
 |(nm,w)::r,off,keys,a,e=>by
  obtain⟨_,ks,a1,keys2,a2,h1,h2,rfl,rfl⟩:=bG e;obtain⟨h3,h4⟩:=oX hnd h1;obtain⟨h5,h6⟩:=pg hnd h2;rw[Jk];refine⟨λk hm p hpk=>?_,?_⟩
  .rcases JB.1 hm with rfl|hm
   .have:=h3 p hpk;omega
   .have:=h5 k hm p hpk;omega
  .intro i N hi k hk p hpk;rw[Jk];by_cases hlt:i<a1.length
   .rw[JD hlt] at hi;have:=h4 i N hi k hk p hpk;omega
   .rw[Jx (by omega)] at hi;have:=h6 _ N hi k hk p hpk;omega
theorem Ar(f:Nat):∀off P u a,node f off P u=.ok a->0<a.length/\tB off a:=by
 induction f with
 |zero=>intro off P u a h;cases h
 |succ f ih=>
  intro off P u a h;obtain⟨k,b,n,s,l,m⟩:=u;obtain⟨_,keys,r,h1,rfl⟩:=dd h;obtain⟨h2,h3⟩:=pg ih h1;refine⟨by simp,λi N hi q hq p hpk=>?_⟩;rw[Jl];cases i with
  |zero=>
   obtain rfl:_=N:=by simpa using hi
   have:=h2 q hq p hpk;omega
  |succ i=>
   rw[Kr] at hi;have:=h3 i N hi q hq p hpk;omega
def Of(N:Node):Vl->Prop
 |.mk k b _ _ _ m=>N.all=decide (k=1)/\N.pass=b/\N.keys.length=m.length
def EE(P:Names)(v:Vl)(a:List Node):Prop:=(∀N∈a,∃ns x,N.at_=P++ns/\get v ns=some x/\Of N x)/\(a.map (·.at_)).Nodup
theorem ik{a b:Jd}(h:Lib.compareBytes a b= -1):a≠b:=λe=>by rw[e,Nm.cF] at h;omega
theorem iT{ks:List Jd}(h:bO ks=true):ks.Nodup:=((Ps.jK ks).1 h).imp ik
theorem rV(l:List Vl):((Sh.aI l).map (·.1)).Nodup:=by
 refine Ld.2 ?_;intro i j hi hj hij;simp only[Sh.aI,Lj,List.getElem_mapIdx];intro e;have:=Kk Nm.val e;rw[Nm.iX,Nm.iX] at this;omega
theorem BO{k:Int}{b:Bool}{n:Nm.Num}{s:Jd}{l:List Vl}{m:List Mem}(h:(Vl.mk k b n s l m).may=true){q:Mem}(hq:q∈m):Ed.kid (.mk k b n s l m) q.1=some q.2:=by
 obtain⟨_,_,_,_,_,_,h5,_,_,_,_,hr⟩:=au h;have hk:k=5:=by
  apply Nj;intro hk;rw[h5 hk] at hq;cases hq
 subst hk;rw[Ed.ot,Jj (by decide)];obtain⟨i,hi⟩:=JP hq;show(if(5:Int)=5 then Js.find m q.1 else none)=_;rw[Jo rfl];exact vg hr hi
def step(nm key:Jd):Names:=if Sh.single nm=true then[] else[key]
theorem H7{nm:Jd}{w:Vl}(hm:w.may=true)(hs:w.size<=1000000)(h:Sh.shape nm w=0){p:Mem}(hp:p∈Sh.kids nm w):get w (step nm p.1)=some p.2:=by
 obtain⟨_,hok⟩:=Sh.AY h;obtain⟨k,b,n,s,l,m⟩:=w;rw[Sh.cI] at hp;unfold step;by_cases h8:Sh.kw nm=8
 .rw[Jo h8] at hp;obtain rfl:=Jt.1 hp;rw[Jo (show Sh.single nm=true from K5 h8)];rfl
 .rw[Jj h8] at hp;rw[Jj (show¬Sh.single nm=true fromλe=>h8 (KU e)),Ed.ni];by_cases h9:Sh.kw nm=9
  .rw[Jo h9] at hp;rw[BO hm hp];rfl
  .rw[Jj h9] at hp;by_cases h10:Sh.kw nm=10
   .rw[Jo h10] at hp;rw[h10] at hok;simp only[Sh.jl,JH,JF] at hok;obtain⟨⟨hk,_⟩,_⟩:=hok;obtain⟨i,hi⟩:=JP hp;obtain⟨u,hu,rfl⟩:=Sh.ef hi;have hil:=(Jm.1 hu).1;have hll:=cS l;simp only[Vl.size] at hs;rw[Ed.ot,Jo hk,Ed.nt (Ed.x9 i (by omega)) (by rw[Nm.iX];exact hil) false,Nm.iX,Jo rfl];simp only;rw[hu];rfl
   .rw[Jj h10] at hp;cases hp
theorem rq{nm:Jd}{w:Vl}(hm:w.may=true){p:Mem}(hp:p∈Sh.kids nm w):p.2.may=true:=by
 obtain⟨k,b,n,s,l,m⟩:=w;obtain⟨_,_,_,_,_,_,_,_,_,hl,hmm,_⟩:=au hm;rw[Sh.cI] at hp;split at hp
 .obtain rfl:=Jt.1 hp;exact hm
 .split at hp
  .exact(br m).1 hmm p hp |>.2
  .split at hp
   .obtain⟨i,hi⟩:=JP hp;obtain⟨u,hu,rfl⟩:=Sh.ef hi;exact(ba l).1 hl u (Jz hu)
   .cases hp
theorem Ac{nm:Jd}{w:Vl}(hm:w.may=true):((Sh.kids nm w).map (·.1)).Nodup:=by
 obtain⟨k,b,n,s,l,m⟩:=w;obtain⟨_,_,_,_,_,_,_,_,_,_,_,hr⟩:=au hm;rw[Sh.cI];split
 .simp
 .split
  .exact iT hr
  .split
   .exact rV l
   .simp
theorem fQ{nm:Jd}(w:Vl)(h:Sh.single nm=true):(Sh.kids nm w).length<=1:=by
 obtain⟨k,b,n,s,l,m⟩:=w;rw[Sh.cI,Jo (KU h)];simp
theorem u9{α:Type}{a b:List α}(ha:a.Nodup)(hb:b.Nodup)(h:∀x∈a,x∈b->False):(a++b).Nodup:=Ng.2 ⟨ha,hb,λx hx _ hy e=>h x hx (e▸hy)⟩
theorem pc{nd:Nat->Names->Vl->Res (List Node)}{single:Bool}{under:Names}:∀{l:List Mem} {off:Nat} {ks:List (Jd×Nat)} {a:List Node},(∀p∈l,∀off P a,nd off P p.2=.ok a->EE P p.2 a)->(single=true->l.length<=1)->(l.map (·.1)).Nodup->ar nd single under off l=.ok (ks,a)->
  (∀N∈a,∃p∈l,∃ns x,N.at_=under++((if single=true then[] else[p.1])++ns)/\get p.2 ns=some x/\Of N x)/\(a.map (·.at_)).Nodup
 |[],off,ks,a,_,_,_,e=>by
  rw[ar] at e;injection e with e;injection e with e1 e2;subst e1 e2
  exact⟨(λN h=>by cases h),by simp⟩
 |(key,u)::r,off,ks,a,hnd,hk,hd,e=>by
  obtain⟨a1,ks2,a2,h1,h2,_,rfl⟩:=aN e;obtain⟨h3,h4⟩:=hnd (key,u) (by simp) _ _ _ h1;rw[Kh,LK] at hd;obtain⟨h5,h6⟩:=pc (λp hp=>hnd p (by simp[hp])) (λh=>by have:=hk h;simp at this;simp[this]) hd.2 h2;have hh:∀N∈a1,∃ns x,N.at_=under++((if single=true then[] else[key])++ns)/\get u ns=some x/\Of N x:=by
   intro N hN;obtain⟨ns,x,e1,e2,e3⟩:=h3 N hN;refine⟨ns,x,?_,e2,e3⟩;rw[e1];split
   .rfl
   .rw[Ko]
  refine⟨λN hN=>?_,?_⟩
  .rcases Jq.1 hN with hN|hN
   .obtain⟨ns,x,e1,e2,e3⟩:=hh N hN;exact⟨(key,u),by simp,ns,x,e1,e2,e3⟩
   .obtain⟨p,hp,q⟩:=h5 N hN;exact⟨p,by simp[hp],q⟩
  .rw[JX];refine u9 h4 h6 ?_;intro x hx hy;obtain⟨N,hN,rfl⟩:=JQ.1 hx;obtain⟨N',hN',e'⟩:=JQ.1 hy;obtain⟨ns,_,e1,_,_⟩:=hh N hN;obtain⟨p,hp,ns',_,e2,_,_⟩:=h5 N' hN';rw[e2,e1] at e';have e3:=NA e';cases single with
   |true=>
    have:=hk rfl;simp at this;subst this;cases hp
   |false=>
    simp only[Ki,Kq,JS,JW,List.cons.injEq] at e3;exact hd.1 (JQ.2 ⟨p,hp,e3.1⟩)
theorem po{nd:Nat->Names->Vl->Res (List Node)}{P:Names}:∀{m:List Mem} {off:Nat} {keys:List Key} {a:List Node},(∀q∈m,q.2.may=true)->(∀q∈m,∀p∈Sh.kids q.1 q.2,∀off P a,nd off P p.2=.ok a->EE P p.2 a)->(m.map (·.1)).Nodup->av nd P off m=.ok (keys,a)->
  (∀N∈a,∃q∈m,∃p∈Sh.kids q.1 q.2,Sh.shape q.1 q.2=0/\∃ns x,N.at_=P++(q.1::(step q.1 p.1++ns))/\get p.2 ns=some x/\Of N x)/\(a.map (·.at_)).Nodup
 |[],off,keys,a,_,_,_,e=>by
  rw[av] at e;injection e with e;injection e with e1 e2;subst e1 e2
  exact⟨(λN h=>by cases h),by simp⟩
 |(nm,w)::r,off,keys,a,hmay,hnd,hd,e=>by
  obtain⟨h0,ks,a1,keys2,a2,h1,h2,_,rfl⟩:=bG e;obtain⟨h3,h4⟩:=pc (hnd (nm,w) (by simp)) (λh=>fQ w h) (Ac (hmay (nm,w) (by simp))) h1;rw[Kh,LK] at hd;obtain⟨h5,h6⟩:=po (λq hq=>hmay q (by simp[hq])) (λq hq=>hnd q (by simp[hq])) hd.2 h2;have hh:∀N∈a1,∃p∈Sh.kids nm w,∃ns x,N.at_=P++(nm::(step nm p.1++ns))/\get p.2 ns=some x/\Of N x:=by
   intro N hN;obtain⟨p,hp,ns,x,e1,e2,e3⟩:=h3 N hN;exact⟨p,hp,ns,x,by rw[e1,Ko];rfl,e2,e3⟩
  refine⟨λN hN=>?_,?_⟩
  .rcases Jq.1 hN with hN|hN
   .obtain⟨p,hp,ns,x,e1,e2,e3⟩:=hh N hN;exact⟨(nm,w),by simp,p,hp,h0,ns,x,e1,e2,e3⟩
   .obtain⟨q,hq,z⟩:=h5 N hN;exact⟨q,by simp[hq],z⟩
  .rw[JX];refine u9 h4 h6 ?_;intro x hx hy;obtain⟨N,hN,rfl⟩:=JQ.1 hx;obtain⟨N',hN',e'⟩:=JQ.1 hy;obtain⟨_,_,ns,_,e1,_,_⟩:=hh N hN;obtain⟨q,hq,_,_,_,ns',_,e2,_,_⟩:=h5 N' hN';rw[e2,e1] at e';have e3:=NA e';injection e3 with e3 _;exact hd.1 (JQ.2 ⟨q,hq,e3⟩)
theorem CT{v w u:Vl}{nm:Jd}{st ns:Names}(h1:Ed.kid v nm=some w)(h2:get w st=some u)(hst:st=[]\/∃key,st=[key]):get v (nm::(st++ns))=get u ns:=by
 rw[Ed.ni,h1];show get w (st++ns)=_;rcases hst with rfl|⟨key,rfl⟩
 .have:w=u:=by
   obtain⟨k,b,n,s,l,m⟩:=w;injection h2
  rw[this];rfl
 .rw[JS,JW,Ed.ni];rw[Ed.ni] at h2;cases hk:Ed.kid w key with
  |none=>rw[hk] at h2;cases h2
  |some z=>
   rw[hk] at h2;have:z=u:=by
    obtain⟨k,b,n,s,l,m⟩:=z;injection h2
   show get z ns=_;rw[this]
theorem Au(f:Nat):∀off P v a,v.may=true->v.size<=1000000->node f off P v=.ok a->EE P v a:=by
 induction f with
 |zero=>intro off P v a _ _ h;cases h
 |succ f ih=>
  intro off P v a hv hs h;obtain⟨k,b,n,s,l,m⟩:=v;obtain⟨_,keys,r,h1,rfl⟩:=dd h;have hkl:=u5 h1;obtain⟨_,_,_,_,_,_,_,_,_,_,hmm,hr⟩:=au hv;have hmay:∀q∈m,q.2.may=true:=λq hq=>((br m).1 hmm q hq).2;have hsz:∀q∈m,q.2.size<=1000000:=λq hq=>by have:=er hq;simp only[Vl.size] at hs;omega
  obtain⟨h2,h3⟩:=po hmay (λq hq p hp off P a=>ih off P p.2 a (rq (hmay q hq) hp) (by have:=jE hp;have:=hsz q hq;omega)) (iT hr) h1;refine⟨λN hN=>?_,?_⟩
  .rcases JB.1 hN with rfl|hN
   .exact⟨[],.mk k b n s l m,by simp,rfl,rfl,rfl,hkl⟩
   .obtain⟨q,hq,p,hp,h0,ns,x,e1,e2,e3⟩:=h2 N hN;refine⟨_,x,e1,?_,e3⟩;rw[CT (BO hv hq) (H7 (hmay q hq) (hsz q hq) h0 hp) (by unfold step;split;exact .inl rfl;exact .inr ⟨_,rfl⟩)];exact e2
  .rw[Kh,LK];refine⟨λhx=>?_,h3⟩;obtain⟨N,hN,e⟩:=JQ.1 hx;obtain⟨q,_,p,_,_,ns,_,e1,_,_⟩:=h2 N hN;rw[e1] at e;have:=Kk List.length e;simp at this
theorem fJ{v:Vl}{a:List Node}(hv:v.may=true)(hs:v.size<=1000000)(h:compile v=.ok a):(∀N∈a,∃x,get v N.at_=some x/\Of N x)/\(a.map (·.at_)).Nodup/\0<a.length/\a.length<=200/\Ez 0 a/\tB 0 a:=by
 unfold compile at h;split at h
 .obtain⟨h1,h2⟩:=Au _ _ _ _ _ hv hs h;have h3:=Dm _ _ _ _ _ h;have h4:=Ar _ _ _ _ _ h;have h5:=u6 _ _ _ _ _ (by omega) h;refine⟨λN hN=>?_,h2,h3.1,by omega,h3.2,h4.2⟩;obtain⟨ns,x,e1,e2,e3⟩:=h1 N hN;rw[JW] at e1;exact⟨x,by rw[e1];exact e2,e3⟩
 .cases h
theorem jW{nd:Nat->Names->Vl->Res (List Node)}{single:Bool}{under:Names}{l2:List Mem}:∀(l1:List Mem) (off:Nat),ar nd single under off (l1++l2)=match ar nd single under off l1 with
  |.bad c p=>.bad c p
  |.ok (k1,a1)=>match ar nd single under (off+a1.length) l2 with
   |.bad c p=>.bad c p
   |.ok (k2,a2)=>.ok (k1++k2,a1++a2)
 |[],off=>by
  rw[JW,show ar nd single under off []=.ok ([],[]) from rfl];simp only[Jw,Kx,JW];cases ar nd single under off l2 with
  |bad c p=>rfl
  |ok x=>rfl
 |(key,u)::r,off=>by
  rw[JS,ar,ar];cases nd off (if single=true then under else under++[key]) u with
  |bad c p=>rfl
  |ok a=>
   simp only;rw[jW r];cases ar nd single under (off+a.length) r with
   |bad c p=>rfl
   |ok x=>
    obtain⟨k1,a1⟩:=x;simp only[Jk,<-Nat.add_assoc];cases ar nd single under (off+a.length+a1.length) l2 with
    |bad c p=>rfl
    |ok x=>simp only[JS,Ko]
theorem gj{nd:Nat->Names->Vl->Res (List Node)}{P:Names}{l2:List Mem}:∀(l1:List Mem) (off:Nat),av nd P off (l1++l2)=match av nd P off l1 with
  |.bad c p=>.bad c p
  |.ok (k1,a1)=>match av nd P (off+a1.length) l2 with
   |.bad c p=>.bad c p
   |.ok (k2,a2)=>.ok (k1++k2,a1++a2)
 |[],off=>by
  rw[JW,show av nd P off []=.ok ([],[]) from rfl];simp only[Jw,Kx,JW];cases av nd P off l2 with
  |bad c p=>rfl
  |ok x=>rfl
 |(nm,w)::r,off=>by
  rw[JS,av,av];split
  .cases ar nd (Sh.single nm) (P++[nm]) off (Sh.kids nm w) with
   |bad c p=>rfl
   |ok x=>
    obtain⟨ks,a⟩:=x;simp only;rw[gj r];cases av nd P (off+a.length) r with
    |bad c p=>rfl
    |ok x=>
     obtain⟨k1,a1⟩:=x;simp only[Jk,<-Nat.add_assoc];cases av nd P (off+a.length+a1.length) l2 with
     |bad c p=>rfl
     |ok x=>simp only[JS,Ko]
  .rfl
theorem zZ{nd:Nat->Names->Vl->Res (List Node)}{single:Bool}{under:Names}{l:List Mem}{off j:Nat}{ks:List (Jd×Nat)}{a:List Node}(hj:j<l.length)(h:ar nd single under off (l.take j)=.ok (ks,a)):
  (∀b,nd (off+a.length) (if single=true then under else under++[(l[j]).1]) (l[j]).2=.ok b->ar nd single under off (l.take (j+1))=.ok (ks++[((l[j]).1,off+a.length)],a++b))/\
  (∀c p,nd (off+a.length) (if single=true then under else under++[(l[j]).1]) (l[j]).2=.bad c p->ar nd single under off l=.bad c p):=by
 refine⟨λb hb=>?_,λc p hb=>?_⟩
 .rw[Jr hj,jW,h];simp only;rw[show[l[j]]=[((l[j]).1,(l[j]).2)] from rfl,ar,hb];simp only;rw[show ar nd single under (off+a.length+b.length) []=.ok ([],[]) from rfl];simp
 .have e:l=l.take j++((l[j]).1,(l[j]).2)::l.drop (j+1):=by
   conv=>lhs;rw[<-List.take_append_drop j l,JO hj]
  rw[e,jW,h];simp only;rw[ar,hb]
theorem Ao{nd:Nat->Names->Vl->Res (List Node)}{P:Names}{m:List Mem}{off j:Nat}{keys:List Key}{a:List Node}(hj:j<m.length)(h:av nd P off (m.take j)=.ok (keys,a)):
  (¬Sh.shape (m[j]).1 (m[j]).2=0->av nd P off m=.bad (Sh.shape (m[j]).1 (m[j]).2) (P++[(m[j]).1]))/\
  (Sh.shape (m[j]).1 (m[j]).2=0->(∀ks b,ar nd (Sh.single (m[j]).1) (P++[(m[j]).1]) (off+a.length) (Sh.kids (m[j]).1 (m[j]).2)=.ok (ks,b)->av nd P off (m.take (j+1))=.ok (keys++[⟨(m[j]).1,(m[j]).2,ks⟩],a++b))/\
   (∀c p,ar nd (Sh.single (m[j]).1) (P++[(m[j]).1]) (off+a.length) (Sh.kids (m[j]).1 (m[j]).2)=.bad c p->av nd P off m=.bad c p)):=by
 have e:m=m.take j++((m[j]).1,(m[j]).2)::m.drop (j+1):=by
  conv=>lhs;rw[<-List.take_append_drop j m,JO hj]
 refine⟨λh0=>?_,λh0=>⟨λks b hb=>?_,λc p hb=>?_⟩⟩
 .generalize hq:m[j]=q at*
  rw[e,gj,h];simp only;rw[av,Jj h0]
 .rw[Jr hj,gj,h];simp only;rw[show[m[j]]=[((m[j]).1,(m[j]).2)] from rfl,av,Jo h0,hb];simp only;rw[show av nd P (off+a.length+b.length) []=.ok ([],[]) from rfl];simp
 .generalize hq:m[j]=q at*
  rw[e,gj,h];simp only;rw[av,Jo h0,hb]
theorem Hg{f off:Nat}{P:Names}{k:Int}{b:Bool}{n:Nm.Num}{s:Jd}{l:List Vl}{m:List Mem}{keys:List Key}{r:List Node}(h0:¬off=200)(h:av (node f) P (off+1) m=.ok (keys,r)):node (f+1) off P (.mk k b n s l m)=.ok (⟨P,decide (k=1),b,keys⟩::r):=by
 rw[node,Jj h0,h]
theorem ye{f off:Nat}{P:Names}{k:Int}{b:Bool}{n:Nm.Num}{s:Jd}{l:List Vl}{m:List Mem}{c:Nat}{p:Names}(h0:¬off=200)(h:av (node f) P (off+1) m=.bad c p):node (f+1) off P (.mk k b n s l m)=.bad c p:=by
 rw[node,Jj h0,h]
theorem Dk{f off:Nat}{P:Names}{v:Vl}(h0:off=200):node (f+1) off P v=.bad 5 P:=by
 obtain⟨k,b,n,s,l,m⟩:=v;rw[node,Jo h0]
end Cm
