import Derived.Test.YtdhgmaonolgpnaaGreatDoorIb
set_option linter.unusedSimpArgs false
namespace Go.Proofs.YtdhgmaonolgpnaaGreatDoor
namespace Vd
open Js Pt Cm Fl
def dR(v:Vl):List Ask:=(Ow.bU v).mapIdx λj _=>⟨0,0,false,Lib.decDigits j,j⟩
def ec(v:Vl)(key:Jd):List Ask:=((cq v).mapIdx λj p=>if p.1=key then[(⟨0,0,false,key,j⟩:Ask)] else[]).flatten
def eI(N:Cm.Node)(m:List Mem):List Ask:=(m.mapIdx λj p=>if named N p.1=true then[] else[(⟨0,0,false,p.1,j⟩:Ask)]).flatten
def kJ(N:Cm.Node)(nm key:Jd)(v:Vl):List Ask:=
 if nm=aR then dR v else if nm=b9 then ec v key else if nm=lO then eI N (cq v) else if place nm=true then[⟨0,0,true,[],0⟩] else[]
def eP(i n:Nat)(a:Ask):Ask:=⟨i,n,a.here,a.name,a.at_⟩
theorem tQ{α β:Type}{f:Nat->α->List β}{l:List α}(h:∀i a,f i a=[]):(l.mapIdx f).flatten=[]:=jA.2 λi a _=>h i a
theorem rF{α β γ:Type}(g:β->γ)(f:Nat->α->List β)(l:List α):((l.mapIdx f).flatten).map g=(l.mapIdx λi a=>(f i a).map g).flatten:=by
 rw[Nr,eY]
theorem mu(N:Cm.Node)(v:Vl)(i:Nat)(nm:Jd)(kid:Jd×Nat):cU N v i nm kid=(kJ N nm kid.1 v).map (eP i kid.2):=by
 unfold cU kJ;by_cases h1:nm=aR
 .subst h1;rw[Jj (by decide),Jo rfl,Jo rfl,tQ (λi p=>by unfold jZ;rw[Jj];rintro(⟨h,_⟩|⟨h,_⟩)<;>exact absurd h (by decide))];unfold ig dR;rw[eY];simp[eP]
 .rw[Jj h1,Jj h1];by_cases h2:nm=b9
  .subst h2;rw[Jj (by decide),Jo rfl];unfold ec;rw[rF,JW,JW]
   congr 1
   refine M6.2 λj hj=>?_;unfold jZ;by_cases h:(cq v)[j].1=kid.1
   .rw[Jo (.inl ⟨rfl,h⟩),Jo h,h];rfl
   .rw[Jj (by rintro(⟨_,k⟩|⟨k,_⟩);exact h k;exact absurd k (by decide)),Jj h];rfl
  .rw[Jj h2];by_cases h3:nm=lO
   .subst h3;rw[Jj (by decide),Jo rfl];unfold eI;rw[rF,JW,JW]
    congr 1
    refine M6.2 λj hj=>?_;unfold jZ;by_cases h:named N (cq v)[j].1=true
    .rw[Jj (by rintro(⟨k,_⟩|⟨_,k⟩);exact h2 k;rw[h] at k;cases k),Jo h];rfl
    .rw[Jo (.inr ⟨rfl,by simpa using h⟩),Jj h];rfl
   .rw[Jj h3,tQ (λi p=>by unfold jZ;rw[Jj];rintro(⟨h,_⟩|⟨h,_⟩);exact h2 h;exact h3 h)];by_cases h4:place nm=true
    .rw[Jo h4,Jo h4];rfl
    .rw[Jj h4,Jj h4];rfl
theorem kY{α β:Type}(f:Nat->α->β){l:List α}{k:Nat}{a:α}(h:l[k]? =some a):(l.take (k+1)).mapIdx f=(l.take k).mapIdx f++[f k a]:=by
 obtain⟨hl,rfl⟩:=Jm.1 h;rw[Jr hl,List.mapIdx_append];simp[MD (Nat.le_of_lt hl)]
def fU(N:Cm.Node)(v:Vl)(k:Nat):List Ask:=((N.keys.take k).mapIdx (cH N v)).flatten
theorem lZ(N:Cm.Node)(v:Vl):fU N v N.keys.length=asks N v:=by unfold fU asks;rw[JC]
theorem oP{N:Cm.Node}{v:Vl}{k:Nat}{K:Key}(h:N.keys[k]? =some K):fU N v (k+1)=fU N v k++K.kids.flatMap λkid=>(kJ N K.name kid.1 v).map (eP k kid.2):=by
 unfold fU;rw[kY _ h,MN];simp only[Mf,List.flatten_nil,JK];unfold cH
 congr 1
 exact Kk (List.flatMap · K.kids) (funext λkid=>mu N v k K.name kid)
theorem Am{v:Vl}(hd:((cq v).map (·.1)).Nodup){key:Jd}{j:Nat}{p:Mem}(h:(cq v)[j]? =some p)(hk:p.1=key):ec v key=[⟨0,0,false,key,j⟩]:=by
 unfold ec;have:∀(m:List Mem) (d:Nat),(m.map (·.1)).Nodup->∀j,m[j]? =some p->(m.mapIdx λj p=>if p.1=key then[(⟨0,0,false,key,j+d⟩:Ask)] else[]).flatten=[⟨0,0,false,key,j+d⟩]:=by
  intro m
  induction m with
  |nil=>intro d _ j h;simp at h
  |cons q r ih=>
   intro d hn j h;rw[Kh,LK] at hn;rw[Ms,Mf];cases j with
   |zero=>
    obtain rfl:q=p:=by simpa using h
    rw[Jo hk,jA.2,JK];intro i a ha;rw[Jj];intro e;exact hn.1 (JQ.2 ⟨a,Jz ha,by rw[e,hk]⟩)
   |succ j=>
    have h':r[j]? =some p:=by simpa using h
    rw[Jj (λe=>hn.1 (JQ.2 ⟨p,Jz h',by rw[e,hk]⟩)),JW];have:=ih (d+1) hn.2 j h';rw[show j+1+d=j+(d+1) by omega,<-this]
    congr 2
    funext a b
    rw[show a+1+d=a+(d+1) by omega]
 have:=this (cq v) 0 hd j h;simpa using this
theorem vA{v:Vl}{key:Jd}(h:∀p∈cq v,¬p.1=key):ec v key=[]:=by
 unfold ec;exact jA.2 λi p hp=>Jj (h p (Jz hp))
theorem vG{N:Cm.Node}{m:List Mem}{k:Nat}{p:Mem}(h:m[k]? =some p):eI N (m.take (k+1))=eI N (m.take k)++if named N p.1=true then[] else[⟨0,0,false,p.1,k⟩]:=by
 unfold eI;rw[kY _ h,MN];simp
def dt(nm:Jd)(right:Nat):Bool:=if nm=ch then decide (right=0) else if nm=cm then !decide (right=1) else if nm=eM then decide (0<right) else false
def dH(a:List Ask)(wr:List Bool)(i:Nat):Nat:=(a.zip wr).countP λp=>decide (p.1.key=i)&& !p.2
def fy(N:Cm.Node)(a:List Ask)(wr:List Bool)(k:Nat):List Jd:=((N.keys.take k).mapIdx λi K=>if dt K.name (dH a wr i)=true then[K.name] else[]).flatten
def bp(N:Cm.Node)(a:List Ask)(wr:List Bool):List Jd:=fy N a wr N.keys.length
theorem xo{N:Cm.Node}{a:List Ask}{wr:List Bool}{k:Nat}{K:Key}(h:N.keys[k]? =some K):fy N a wr (k+1)=fy N a wr k++if dt K.name (dH a wr k)=true then[K.name] else[]:=by
 unfold fy;rw[kY _ h,MN];simp
theorem vh{α β:Type}{f:Nat->α->List β}{n:Nat}:∀{l:List α} {d:Nat},(∀i a,(f i a).length<=n)->((l.mapIdx λi a=>f (i+d) a).flatten).length<=l.length*n
 |[],_,_=>by simp
 |a::r,d,h=>by
  rw[Ms,Mf,Jk,Jl,Nt];have h1:=vh (f:=f) (l:=r) (d:=d+1) h;have h2:=h (0+d) a;have h3:(r.mapIdx λi a=>f (i+1+d) a)=r.mapIdx λi a=>f (i+(d+1)) a:=by congr 1;funext i a;rw[show i+1+d=i+(d+1) by omega]
  rw[h3];omega
theorem qH(N:Cm.Node)(a:List Ask)(wr:List Bool)(k:Nat):(fy N a wr k).length<=N.keys.length:=by
 unfold fy;have:=vh (f:=λi (K:Key)=>if dt K.name (dH a wr i)=true then[K.name] else[]) (n:=1) (l:=N.keys.take k) (d:=0) (λi K=>by split<;>simp);rw[JL] at this;simp only[Kx] at this;omega
theorem uY{N:Cm.Node}{a:List Ask}{wr:List Bool}{k:Nat}{nm:Jd}(h:nm∈fy N a wr k):∃K∈N.keys,nm=K.name:=by
 obtain⟨i,K,hK,h⟩:=cR.1 h;refine⟨K,KG (Jz hK),?_⟩;split at h
 .exact Jt.1 h
 .cases h
theorem zB(N:Cm.Node)(v:Vl)(i:Nat){K:Key}(h:N.keys[i]? =some K):(asks N v).countP (λx=>decide (x.key=i))=(cH N v i K).length:=by
 have hin:∀(i j:Nat) (K:Key),(cH N v j K).countP (λx=>decide (x.key=i))=if j=i then(cH N v j K).length else 0:=by
  intro i j K;have hk:∀x∈cH N v j K,x.key=j:=λx hx=>by
   unfold cH at hx;obtain⟨kid,_,hx⟩:=KB.1 hx;rw[mu] at hx;obtain⟨a,_,rfl⟩:=JQ.1 hx;rfl
  split
  .rename_i e;exact List.countP_eq_length.2 λx hx=>by simp[hk x hx,e]
  .rename_i e;exact O3.2 λx hx=>by simp[hk x hx,e]
 have hall:∀(l:List Key) (d i:Nat) (K:Key),l[i]? =some K->((l.mapIdx λj K=>cH N v (j+d) K).flatten).countP (λx=>decide (x.key=i+d))=(cH N v (i+d) K).length:=by
  intro l
  induction l with
  |nil=>intro d i K h;simp at h
  |cons K0 r ih=>
   intro d i K h;rw[Ms,Mf,List.countP_append,hin];have h3:(r.mapIdx λi a=>cH N v (i+1+d) a)=r.mapIdx λi a=>cH N v (i+(d+1)) a:=by congr 1;funext i a;rw[show i+1+d=i+(d+1) by omega]
   rw[h3];cases i with
   |zero=>
    obtain rfl:K0=K:=by simpa using h
    rw[Jo rfl];have:((r.mapIdx λi a=>cH N v (i+(d+1)) a).flatten).countP (λx=>decide (x.key=0+d))=0:=by
     refine O3.2 λx hx=>?_;obtain⟨j,K',hj,hx⟩:=cR.1 hx;unfold cH at hx;obtain⟨kid,_,hx⟩:=KB.1 hx;rw[mu] at hx;obtain⟨a,_,rfl⟩:=JQ.1 hx;intro hh;have hh:=KU hh;simp only[eP] at hh;omega
    rw[this];rfl
   |succ i=>
    rw[Jj (by omega),JI];have:=ih (d+1) i K (by simpa using h);rw[show i+1+d=i+(d+1) by omega];exact this
 have:=hall N.keys 0 i K h;simpa[asks] using this
theorem El{α β:Type}(f:α->β)(l:List α):l.zip (l.map f)=l.map λx=>(x,f x):=by
 induction l with
 |nil=>rfl
 |cons a r ih=>simp[ih]
def uJ(N:Cm.Node):Prop:=∀K∈N.keys,K.name=eM->K.kids.length=1
theorem zA{N:Cm.Node}{v:Vl}(hn:uJ N)(r:Ask->List F):wX N ((asks N v).map λx=>(x,r x))=bp N (asks N v) ((asks N v).map λx=> !(r x).isEmpty):=by
 unfold wX bp fy;rw[JC]
 congr 1
 refine M6.2 λi hi=>?_;have hg:eA i ((asks N v).map λx=>(x,r x))=dH (asks N v) ((asks N v).map λx=> !(r x).isEmpty) i:=by
  unfold eA dH;rw[El,Le,Le]
  congr 1
  funext x
  simp
 rw[<-hg];have hc:comb (N.keys[i]).name (eA i ((asks N v).map λx=>(x,r x))) (gg i ((asks N v).map λx=>(x,r x)))=dt (N.keys[i]).name (eA i ((asks N v).map λx=>(x,r x))):=by
  unfold comb dt;by_cases h1:(N.keys[i]).name=ch
  .rw[Jo h1,h1];have e1:¬ch=cm:=by decide
   have e2:¬ch=eM:=by decide
   simp[e1,e2]
  .rw[Jj h1];by_cases h2:(N.keys[i]).name=cm
   .rw[Jo h2,h2];have e1:¬cm=ch:=by decide
    have e2:¬cm=eM:=by decide
    simp[e1,e2]
   .rw[Jj h2];by_cases h3:(N.keys[i]).name=eM
    .rw[Jo h3];have hm:gg i ((asks N v).map λx=>(x,r x))=1:=by
      unfold gg;rw[Le];have:=zB N v i (Jg hi);rw[show((λp:Ask×List F=>decide (p.1.key=i))∘λx=>(x,r x))=λx=>decide (x.key=i) from rfl,this];unfold cH;rw[h3,hJ (by decide) (by decide) (by decide) (by decide),JR];exact hn _ (Jv hi) h3
     have hle:eA i ((asks N v).map λx=>(x,r x))<=gg i ((asks N v).map λx=>(x,r x)):=Mv λx _ hx=>by simp at hx ⊢;exact hx.1
     rw[hm] at hle ⊢;have e1:¬eM=ch:=by decide
     have e2:¬eM=cm:=by decide
     rw[h3];simp only[e1,e2,decide_false,Lz,N7,LL,Lt];exact decide_eq_decide.2 ⟨λh=>by omega,λh=>by omega⟩
    .rw[Jj h3];simp[h1,h2,h3]
 rw[hc]
def ff(nm:Jd):Bool:=decide (nm=aR)||(decide (nm=b9)||(decide (nm=lO)||(decide (nm=eK)||decide (nm=eD))))
theorem ug{N:Cm.Node}{v:Vl}{x:Ask}(h:x∈asks N v){K:Key}(hK:N.keys[x.key]? =some K):kh K.name x=ff K.name:=by
 obtain⟨i,K',kid,hK',_,e,_,hc⟩:=fO h;rw[e,hK'] at hK;injection hK with hK;subst hK;unfold kh ff;rcases hc with⟨h1,h2,_⟩|⟨h1,h2,_⟩|⟨h1,h2,_⟩
 .rw[h2];have h3:¬K'.name=aR:=λe=>by rw[e] at h1;exact absurd h1 (by decide)
  have h4:¬K'.name=b9:=λe=>by rw[e] at h1;exact absurd h1 (by decide)
  have h5:¬K'.name=lO:=λe=>by rw[e] at h1;exact absurd h1 (by decide)
  simp[h3,h4,h5]
 .rw[h2,h1];decide
 .rw[h1];rcases h2 with⟨h2,_⟩|⟨h2,_⟩<;>rw[h2]<;>decide
def ga(N:Cm.Node)(x:Ask):Bool:=match N.keys[x.key]? with
 |some K=>ff K.name
 |none=>false
def up(ns:Names)(y:F):F:=⟨text ns++y.inst,y.sch,y.kw⟩
theorem Co(ns:Names)(x:Ask)(y:F):up ns (lift x y)=up (ns++under x) y:=by
 unfold up lift;rw[bK,Ko]
theorem lI{L:List Cm.Node}(h:Ends L){i:Nat}{v:Vl}(hv:v.may=true){N:Cm.Node}(hN:L[i]? =some N)(hn:uJ N){f:F}:f∈valid L i v↔
  (∃x∈asks N v,ga N x=true/\∃y∈valid L x.node (bQ v x),f=lift x y)\/∃nm∈Ow.own N v++bp N (asks N v) ((asks N v).map λx=> !(valid L x.node (bQ v x)).isEmpty),f=fM N nm:=by
 rw[sP h hv hN,l9];unfold jV;rw[zA hn,Jq,JQ];have e1:(∃a∈Ow.own N v++bp N (asks N v) ((asks N v).map λx=> !(valid L x.node (bQ v x)).isEmpty),fM N a=f)↔∃nm∈Ow.own N v++bp N (asks N v) ((asks N v).map λx=> !(valid L x.node (bQ v x)).isEmpty),f=fM N nm:=⟨λ⟨a,h1,h2⟩=>⟨a,h1,h2.symm⟩,λ⟨a,h1,h2⟩=>⟨a,h1,h2.symm⟩⟩;rw[e1];refine or_congr_left ?_;rw[cR];constructor
 .rintro⟨k,K,hK,hf⟩;unfold eX at hf;obtain⟨p,hp,hf⟩:=KB.1 hf;obtain⟨hp,hc⟩:=L0.1 hp;obtain⟨x,hx,rfl⟩:=JQ.1 hp;obtain⟨y,hy,rfl⟩:=JQ.1 hf;simp only[JH,JF] at hc;obtain⟨rfl,hc⟩:=hc;refine⟨x,hx,?_,y,hy,rfl⟩;unfold ga;rw[hK];simp only;rw[<-ug hx hK];exact hc
 .rintro⟨x,hx,hp,y,hy,rfl⟩;obtain⟨k,K,_,hK,_,rfl,_⟩:=fO hx;refine⟨x.key,K,hK,KB.2 ⟨(x,valid L x.node (bQ v x)),L0.2 ⟨JQ.2 ⟨x,hx,rfl⟩,?_⟩,JQ.2 ⟨y,hy,rfl⟩⟩⟩;simp only[LL,Lt];rw[ug hx hK];unfold ga at hp;rw[hK] at hp;exact hp
inductive Fd where
 |mk (g:Nat) (ns:List Jd) (path:Jd) (names:List Jd) (on:List Fd)
def Fd.g:Fd->Nat
 |.mk g _ _ _ _=>g
def Fd.ns:Fd->List Jd
 |.mk _ ns _ _ _=>ns
def Fd.path:Fd->Jd
 |.mk _ _ p _ _=>p
def Fd.names:Fd->List Jd
 |.mk _ _ _ l _=>l
def Fd.on:Fd->List Fd
 |.mk _ _ _ _ l=>l
def Fd.own(t:Fd):List F:=t.names.map λnm=>⟨text t.ns,t.path++text [nm],nm⟩
theorem J3{t:Fd}{l:List Fd}(h:t∈l)(g ns p n):SizeOf.sizeOf t<SizeOf.sizeOf (Fd.mk g ns p n l):=by
 have:=Mz h;simp only[Fd.mk.sizeOf_spec];omega
theorem Fd.ind{P:Fd->Prop}(h:∀g ns p n l,(∀t∈l,P t)->P (.mk g ns p n l))(t:Fd):P t:=
 match t with
 |.mk g ns p n l=>h g ns p n l (λt _ht=>Fd.ind h t)
termination_by SizeOf.sizeOf t
decreasing_by exact J3 _ht _ _ _ _
mutual
def Fd.dz:Fd->List Fd
 |.mk g ns p n l=>.mk g ns p n l::qL l
def qL:List Fd->List Fd
 |[]=>[]
 |t::r=>t.dz++qL r
end
theorem qM{s:Fd}:∀{l:List Fd},s∈qL l↔∃t∈l,s∈t.dz
 |[]=>by rw[qL];simp
 |t::r=>by rw[qL,Jq,qM];simp
theorem Fd.dF(t:Fd):t∈t.dz:=by cases t;rw[Fd.dz];exact Mb ..
theorem Fd.df{s t:Fd}:s∈t.dz↔s=t\/∃u∈t.on,s∈u.dz:=by
 cases t with
 |mk g ns p n l=>rw[Fd.dz,JB,qM];rfl
theorem Fd.eQ(t:Fd):∀{s u:Fd},s∈t.dz->u∈s.dz->u∈t.dz:=by
 refine Fd.ind (P:=λt=>∀{s u:Fd},s∈t.dz->u∈s.dz->u∈t.dz) ?_ t;intro g ns p n l ih s u hs hu;rcases Fd.df.1 hs with rfl|⟨t,ht,hs⟩
 .exact hu
 .exact Fd.df.2 (.inr ⟨t,ht,ih t ht hs hu⟩)
def Fd.all(t:Fd)(f:F):Prop:=∃s∈t.dz,f∈s.own
theorem Fd.uK{t:Fd}{f:F}:t.all f↔f∈t.own\/∃u∈t.on,u.all f:=by
 unfold Fd.all;constructor
 .rintro⟨s,hs,hf⟩;rcases Fd.df.1 hs with rfl|⟨u,hu,hs⟩
  .exact .inl hf
  .exact .inr ⟨u,hu,s,hs,hf⟩
 .rintro(h|⟨u,hu,s,hs,hf⟩)
  .exact⟨t,t.dF,h⟩
  .exact⟨s,Fd.df.2 (.inr ⟨u,hu,hs⟩),hf⟩
def Ic(t:Fd)(L:List Cm.Node)(i:Nat)(v:Vl)(ns:Names):Prop:=¬valid L i v=[]/\∀f,t.all f↔∃y∈valid L i v,f=up ns y
def Res(L:List Cm.Node)(i:Nat)(v:Vl)(ns:Names)(r:Option Fd):Prop:=(r=none/\valid L i v=[])\/∃t,r=some t/\Ic t L i v ns
def dT(N:Cm.Node):List Ask->List (Option Fd)->List Fd
 |x::a,some t::rs=>if ga N x=true then t::dT N a rs else dT N a rs
 |_::a,none::rs=>dT N a rs
 |_,_=>[]
theorem jF{N:Cm.Node}{t:Fd}:∀{a:List Ask} {rs:List (Option Fd)},t∈dT N a rs↔∃(j:Nat) (x:Ask),a[j]? =some x/\rs[j]? =some (some t)/\ga N x=true
 |[],_=>by simp[dT]
 |_::_,[]=>by simp[dT]
 |x::a,none::rs=>by
  rw[dT,jF];constructor
  .rintro⟨j,x,h⟩;exact⟨j+1,x,h⟩
  .rintro⟨j,x,h1,h2,h3⟩;cases j with
   |zero=>simp at h2
   |succ j=>exact⟨j,x,h1,h2,h3⟩
 |x::a,some u::rs=>by
  have hiff:t∈dT N (x::a) (some u::rs)↔(t=u/\ga N x=true)\/t∈dT N a rs:=by
   rw[dT];by_cases h:ga N x=true
   .rw[Jo h,JB];simp[h]
   .rw[Jj h];simp[h]
  rw[hiff,jF];constructor
  .rintro(⟨rfl,h⟩|⟨j,y,h⟩)
   .exact⟨0,x,rfl,rfl,h⟩
   .exact⟨j+1,y,h⟩
  .rintro⟨j,y,h1,h2,h3⟩;cases j with
   |zero=>
    obtain rfl:x=y:=by simpa using h1
    obtain rfl:u=t:=by simpa using h2
    exact .inl ⟨rfl,h3⟩
   |succ j=>exact .inr ⟨j,y,h1,h2,h3⟩
theorem oy{N:Cm.Node}{x:Ask}{r:Option Fd}:∀{a:List Ask} {rs:List (Option Fd)},a.length=rs.length->dT N (a++[x]) (rs++[r])=dT N a rs++match r with|some t=>if ga N x=true then[t] else[]|none=>[]
 |[],[],_=>by cases r<;>simp[dT]
 |y::a,none::rs,h=>by
  have:=oy (N:=N) (x:=x) (r:=r) (a:=a) (rs:=rs) (by simpa using h);simpa[dT] using this
 |y::a,some u::rs,h=>by
  have:=oy (N:=N) (x:=x) (r:=r) (a:=a) (rs:=rs) (by simpa using h);simp only[JS,dT,this];by_cases hp:ga N y=true<;>simp[hp]
theorem CQ{L:List Cm.Node}(h:Ends L){i:Nat}{v:Vl}(hv:v.may=true){N:Cm.Node}(hN:L[i]? =some N)(hn:uJ N){ns:Names}{rs:List (Option Fd)}(hl:rs.length=(asks N v).length)
  (hr:∀(j:Nat) x r,(asks N v)[j]? =some x->rs[j]? =some r->∀ns',(ns'=ns++under x)->Res L x.node (bQ v x) ns' r) {names:List Jd} (hnm:names=Ow.own N v++bp N (asks N v) (rs.map Option.isSome)) {g:Nat}:
  ((names=[]/\dT N (asks N v) rs=[])↔valid L i v=[])/\∀f,(Fd.mk g ns (text N.at_) names (dT N (asks N v) rs)).all f↔∃y∈valid L i v,f=up ns y:=by
 have hw:rs.map Option.isSome=(asks N v).map λx=> !(valid L x.node (bQ v x)).isEmpty:=by
  refine Lu λj=>?_;rw[JZ,JZ];by_cases hj:j<(asks N v).length
  .have h1:=Jg hj;have h2:=Jg (show j<rs.length by omega);rw[h1,h2];rcases hr j _ _ h1 h2 _ rfl with⟨e,h0⟩|⟨t,e,h0,_⟩
   .simp[e,h0]
   .simp[e,h0]
  .rw[Kb (by omega),Kb (by omega)];rfl
 rw[hw] at hnm;have hall:∀f,(Fd.mk g ns (text N.at_) names (dT N (asks N v) rs)).all f↔∃y∈valid L i v,f=up ns y:=by
  intro f;rw[Fd.uK];constructor
  .rintro(hf|⟨u,hu,hf⟩)
   .obtain⟨nm,hm,rfl⟩:=JQ.1 hf;refine⟨fM N nm,(lI h hv hN hn).2 (.inr ⟨nm,hnm▸hm,rfl⟩),?_⟩;unfold up fM;simp only[Fd.ns,Fd.path,JK,bK]
   .obtain⟨j,x,h1,h2,h3⟩:=jF.1 hu;rcases hr j x _ h1 h2 _ rfl with⟨e,_⟩|⟨t,e,_,h4⟩
    .cases e
    .injection e with e;subst e;obtain⟨y,hy,rfl⟩:=(h4 f).1 hf;exact⟨lift x y,(lI h hv hN hn).2 (.inl ⟨x,Jz h1,h3,y,hy,rfl⟩),(Co ns x y).symm⟩
  .rintro⟨y,hy,rfl⟩;rcases(lI h hv hN hn).1 hy with⟨x,hx,hp,z,hz,rfl⟩|⟨nm,hm,rfl⟩
   .right
    obtain⟨j,hj⟩:=JP hx;have hjl:=(Jm.1 hj).1;have h2:=Jg (show j<rs.length by omega);rcases hr j x _ hj h2 _ rfl with⟨_,e⟩|⟨t,e,_,h4⟩
    .rw[e] at hz;cases hz
    .exact⟨t,jF.2 ⟨j,x,hj,by rw[h2,e],hp⟩,(h4 _).2 ⟨z,hz,Co ns x z⟩⟩
   .left
    refine JQ.2 ⟨nm,hnm▸hm,?_⟩;unfold up fM;simp only[Fd.ns,Fd.path,JK,bK]
 refine⟨?_,hall⟩;constructor
 .rintro⟨h1,h2⟩;refine LJ.2 λy hy=>?_;rcases Fd.uK.1 ((hall (up ns y)).2 ⟨y,hy,rfl⟩) with hf|⟨u,hu,_⟩
  .obtain⟨nm,hm,_⟩:=JQ.1 hf;rw[show(Fd.mk g ns (text N.at_) names (dT N (asks N v) rs)).names=names from rfl,h1] at hm;cases hm
  .rw[show(Fd.mk g ns (text N.at_) names (dT N (asks N v) rs)).on=dT N (asks N v) rs from rfl,h2] at hu;cases hu
 .intro he;refine⟨LJ.2 λnm hm=>?_,LJ.2 λu hu=>?_⟩
  .obtain⟨y,hy,_⟩:=(hall _).1 (Fd.uK.2 (.inl (JQ.2 ⟨nm,hm,rfl⟩)));rw[he] at hy;cases hy
  .obtain⟨j,x,h1,h2,h3⟩:=jF.1 hu;rcases hr j x _ h1 h2 _ rfl with⟨e,_⟩|⟨t,e,h5,h4⟩
   .cases e
   .obtain⟨z,hz⟩:=List.exists_mem_of_ne_nil _ h5;have:=(lI h hv hN hn).2 (.inl ⟨x,Jz h1,h3,z,hz,rfl⟩);rw[he] at this;cases this
theorem DM{L:List Cm.Node}{i:Nat}{v:Vl}{t:Fd}(hs:Ic t L i v [])(hr:iI (valid L i v)){l:List F}(hl:∀f,f∈l↔t.all f):sort l=valid L i v:=by
 refine Cc hr λf=>?_;rw[hl,hs.2];have hu:∀y,up [] y=y:=λy=>by unfold up;rfl
 constructor
 .intro h;exact⟨f,h,(hu f).symm⟩
 .rintro⟨y,hy,e⟩;rw[hu] at e;exact e▸hy
theorem zc(L:List Cm.Node)(i:Nat)(v:Vl):iI (valid L i v):=by
 unfold valid;cases fuel L v with
 |zero=>exact List.Pairwise.nil
 |succ f=>
  rw[found];split
  .exact List.Pairwise.nil
  .exact mI _
end Vd
